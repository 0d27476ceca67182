import PyProof.Rows.All
import Wide.All
import OpenK.AllK
import Wide.FinOn
import HandS.ForMost
import HandS.ForExc
import HandS.Lambda
import HandS.ExcOwn
import HandS.EndBits
import HandS.Flow
import HandS.Iter
import HandS.Wide
import PyProof.EqLayable
import PyProof.ReprRoads
import HandS.RaiseMore
import HandS.Small
import HandS.More
import HandS.Comp
import HandS.Property
import HandS.Defaults
import PyProof.EqAt
import PyProof.EqKinds
import PyProof.TupleCall
import Open.SpecLaws
import KE.OsGo
import HandS.ForSpec
import HandS.ExcField
import HandS.ExcIs
import HandS.IsInst
import HandS.HotCalls
import KE.KExcIs
import HandS.SortInts
import HandS.SortRule
import HandS.WordsDict
import PyProof.StrOps2
import HandS.TupAny
import HandS.Text
import HandS.Style
import KE.SortKeyHeap
import KE.SortData
import KE.KLam
import HandS.EndTab
import KE.KStateDown
import KE.KNestM
import HandS.Head0
import HandS.Head1
import HandS.Head2
import HandS.HeadHook1
import HandS.HeadHook2
import KE.KIsAll
import HandS.OwnEq
import HandS.DictTup
import HandS.SortOrd
import HandS.WideBits
import PyProof.Rows.AssignMoreSeq
import PySem.Challenge.RW_grownrows_k04_next_rows
set_option Elab.async false
/-! GA -/
set_option linter.all false
set_option maxRecDepth 100000
/-! Data (D) borne by the abstract heap; regions. -/
namespace GR
open PySem L2
inductive D where
  | non | bl (b : Bool) | int (i : Int) | str (x : Str) | ty (n : String) | gl (a : Addr)
  | tup (ds : List D) | lst (ds : List D) | frl (is : List Int) | dK (ks : List (Key × D)) | ins (C : Addr) (gs : List (Str × D)) | exc (C : Addr) (d : D)
abbrev Reg := Addr → Prop
/-- a list that is never written: locked, or the text's own -/
def SqLf (K : PySem.W.Frag) (H : Hp) (a : Addr) (xs : List V) : Prop := (∃ o, H a = some (.frz o (.lst xs))) ∨
  ∃ (o : Obj) (its : Array Value) (n : Nat), K.lookup a = some o ∧ o.cls = .type "list" ∧ o.dict = none ∧ o.data = .seq its n ∧ its.size ≤ sizeLine ∧ Vals xs its.toList
theorem SqLf.seq {K : PySem.W.Frag} {H : Hp} {a : Addr} {xs : List V} (h : SqLf K H a xs) : SqL K H a xs := h.imp (fun x => .inr x) id
mutual
inductive Rep (K : PySem.W.Frag) (H : Hp) : Reg → V → D → Prop
  | non {R : Reg} : Rep K H R .non .non
  | bl {R : Reg} {b} : Rep K H R (.bl b) (.bl b)
  | int {R : Reg} {i} : Rep K H R (.int i) (.int i)
  | str {R : Reg} {x} : Rep K H R (.str x) (.str x)
  | ty {R : Reg} {n} : Rep K H R (.ty n) (.ty n)
  | gl {R : Reg} {a} : Rep K H R (.ref a) (.gl a)
  | tup {R : Reg} {a vs ds} : SqT K H a vs → Reps K H R vs ds → Rep K H R (.ref a) (.tup ds)
  | frl {R : Reg} {a is} : SqLf K H a (is.map V.int) → Rep K H R (.ref a) (.frl is)
  | lst {R : Reg} {a vs ds} : R a → H a = some (.lst vs) → Reps K H (fun b => R b ∧ b ≠ a) vs ds → Rep K H R (.ref a) (.lst ds)
  | dK {R : Reg} {a kvs ks} : R a → Rd H a (.dK kvs) → kvs.map Prod.fst = ks.map Prod.fst → Reps K H (fun b => R b ∧ b ≠ a) (kvs.map Prod.snd) (ks.map Prod.snd) → Rep K H R (.ref a) (.dK ks)
  | ins {R : Reg} {a C dx fs gs} : R a → H a = some (.ins C dx fs) → fs.map Prod.fst = gs.map Prod.fst → Reps K H (fun b => R b ∧ b ≠ a) (fs.map Prod.snd) (gs.map Prod.snd) → Rep K H R (.ref a) (.ins C gs)
inductive Reps (K : PySem.W.Frag) (H : Hp) : Reg → List V → List D → Prop
  | nil {R : Reg} : Reps K H R [] []
  | cons {R : Reg} {v d vs ds} : Rep K H R v d → Reps K H R vs ds → Reps K H R (v :: vs) (d :: ds)
end
mutual
def D.imm : D → Bool
  | .non | .bl _ | .int _ | .str _ | .ty _ | .gl _ | .frl _ => true
  | .tup ds => D.imms ds
  | _ => false
def D.imms : List D → Bool
  | [] => true
  | d :: ds => d.imm && D.imms ds
end
/-- what never changes -/
def Stay : HO → Prop
  | .tup _ | .frz _ (.tup _) | .frz _ (.lst _) | .xd _ | .ext _ => True
  | _ => False
/-- an object that is as it was, up to a lock -/
def IsDK (kvs : List (Key × V)) (o : HO) : Prop := o = .dK kvs ∨ ∃ od, o = .frz od (.dK kvs)
/-- .. or a table of code objects that has grown -/
def Up (o o' : HO) : Prop := o' = o ∨ ∃ ps more, o = .tbl ps ∧ o' = .tbl (ps ++ more)
theorem Up.refl (o : HO) : Up o o := .inl rfl
theorem Up.eq {o o' : HO} (u : Up o o') (h : ∀ ps, o ≠ .tbl ps) : o' = o := by
  rcases u with u | ⟨ps, more, e, _⟩
  · exact u
  · exact absurd e (h ps)
theorem Up.trans {a b c : HO} (x : Up a b) (y : Up b c) : Up a c := by
  rcases x with rfl | ⟨ps, more, rfl, rfl⟩
  · exact y
  · rcases y with rfl | ⟨ps', more', e, rfl⟩
    · exact .inr ⟨ps, more, rfl, rfl⟩
    · cases e
      exact .inr ⟨ps, more ++ more', rfl, by rw [Array.append_assoc]⟩
/-- a dict may become locked; what is locked stays so -/
def Vary (o o' : HO) : Prop := Up o o' ∨ ∃ kvs od, o = .dK kvs ∧ o' = .frz od (.dK kvs)
def NoV (o : HO) : Prop := (∀ k, ¬ IsDK k o) ∧ ∀ ps, o ≠ .tbl ps
def Fr (R : Reg) (H H' : Hp) : Prop := ∀ a o, R a ∨ Stay o → H a = some o → ∃ o', H' a = some o' ∧ Vary o o'
section
variable {K : PySem.W.Frag} {H H' H2 : Hp} {R R' : Reg}
theorem IsDK.inj {k k' : List (Key × V)} {o : HO} (h : IsDK k o) (h' : IsDK k' o) : k = k' := by
  rcases h with rfl | ⟨_, rfl⟩ <;> rcases h' with e | ⟨_, e⟩ <;> cases e <;> rfl
theorem Vary.refl (o : HO) : Vary o o := .inl (.inl rfl)
theorem IsDK.noTbl {k : List (Key × V)} {o : HO} (h : IsDK k o) : ∀ ps, o ≠ .tbl ps := by
  rintro ps rfl
  rcases h with h | ⟨_, h⟩ <;> cases h
theorem Vary.trans {a b c : HO} (x : Vary a b) (y : Vary b c) : Vary a c := by
  rcases x with x | ⟨k, od, rfl, rfl⟩
  · rcases y with y | ⟨k, od, rfl, rfl⟩
    · exact .inl (x.trans y)
    · rcases x with rfl | ⟨ps, more, rfl, e⟩
      · exact .inr ⟨k, od, rfl, rfl⟩
      · cases e
  · rcases y with y | ⟨k', od', e, rfl⟩
    · cases y.eq (fun ps q => nomatch q)
      exact .inr ⟨k, od, rfl, rfl⟩
    · cases e
theorem Vary.eq {o o' : HO} (v : Vary o o') (h : NoV o) : o' = o := by
  rcases v with v | ⟨k, od, e, _⟩
  · exact v.eq h.2
  · exact absurd (.inl e) (h.1 k)
theorem Vary.frz {od : Obj} {u o' : HO} (v : Vary (.frz od u) o') : o' = .frz od u := by
  rcases v with v | ⟨k, od', e, _⟩
  · exact v.eq (fun ps q => nomatch q)
  · cases e
theorem not_isDK {o : HO} (h1 : ∀ k, o ≠ .dK k) (h2 : ∀ k od, o ≠ .frz od (.dK k)) (h3 : ∀ ps, o ≠ .tbl ps := by intro ps q; cases q) : NoV o := by
  refine ⟨?_, h3⟩
  rintro k (e | ⟨od, e⟩)
  · exact h1 k e
  · exact h2 k od e
theorem Stay.not {o : HO} (s : Stay o) : NoV o := by
  refine ⟨?_, ?_⟩
  · rintro k (rfl | ⟨od, rfl⟩) <;> exact s
  · rintro ps rfl; exact s
theorem Fr.refl : Fr R H H := fun _ o _ h => ⟨o, h, .inl (.inl rfl)⟩
theorem Fr.at (f : Fr R H H') {a : Addr} {o : HO} (r : R a ∨ Stay o) (h : H a = some o) (n : NoV o) : H' a = some o := by
  obtain ⟨o', h', v⟩ := f a o r h
  rw [h', v.eq n]
theorem Fr.lst (f : Fr R H H') {a : Addr} {xs : List V} (r : R a) (h : H a = some (.lst xs)) : H' a = some (.lst xs) :=
  f.at (.inl r) h (not_isDK (fun _ q => nomatch q) fun _ _ q => nomatch q)
theorem Fr.frl (f : Fr R H H') {a : Addr} {xs : List V} (h : SqLf K H a xs) : SqLf K H' a xs := by
  rcases h with ⟨o, h⟩ | h
  · exact .inl ⟨o, f.at (.inr (show Stay (.frz o (.lst xs)) from trivial)) h (not_isDK (fun _ q => nomatch q) fun _ _ q => by cases q)⟩
  · exact .inr h
theorem Fr.rd_tup (f : Fr R H H') {a : Addr} {xs : List V} (h : Rd H a (.tup xs)) : Rd H' a (.tup xs) := by
  rcases h with h | ⟨o, h⟩
  · exact .inl (f.at (.inr (show Stay (.tup xs) from trivial)) h (not_isDK (fun _ q => nomatch q) fun _ _ q => nomatch q))
  · exact .inr ⟨o, f.at (.inr (show Stay (.frz o (.tup xs)) from trivial)) h (not_isDK (fun _ q => nomatch q) fun _ _ q => by cases q)⟩
theorem Fr.sqt (f : Fr R H H') {a : Addr} {xs : List V} (h : SqT K H a xs) : SqT K H' a xs := by
  rcases h with h | h
  · exact .inl (f.rd_tup h)
  · exact .inr h
theorem Fr.rd_dK (f : Fr R H H') {a : Addr} {kvs : List (Key × V)} (r : R a) (h : Rd H a (.dK kvs)) : Rd H' a (.dK kvs) := by
  have g : ∃ o, H a = some o ∧ IsDK kvs o := by
    rcases h with h | ⟨o, h⟩
    · exact ⟨_, h, .inl rfl⟩
    · exact ⟨_, h, .inr ⟨o, rfl⟩⟩
  obtain ⟨o, h, i⟩ := g
  obtain ⟨o', h', v⟩ := f a o (.inl r) h
  have i' : IsDK kvs o' := by
    rcases v with v | ⟨k, od, e, e'⟩
    · rw [v.eq i.noTbl]; exact i
    · cases i.inj (.inl e); exact .inr ⟨od, e'⟩
  rcases i' with rfl | ⟨od, rfl⟩
  · exact .inl h'
  · exact .inr ⟨od, h'⟩
theorem Fr.ins (f : Fr R H H') {a C dx : Addr} {fs : List (Str × V)} (r : R a) (h : H a = some (.ins C dx fs)) : H' a = some (.ins C dx fs) :=
  f.at (.inl r) h (not_isDK (fun _ q => nomatch q) fun _ _ q => nomatch q)
theorem Fr.mono (f : Fr R H H') (m : ∀ a, R' a → R a) : Fr R' H H' := fun a o h e => f a o (h.imp (m a) id) e
theorem Fr.of_same (s : ∀ a o, H a = some o → H' a = some o) : Fr R H H' := fun a o _ h => ⟨o, s a o h, .inl (.inl rfl)⟩
theorem Stay.vary {o o' : HO} (s : Stay o) (v : Vary o o') : o' = o := v.eq s.not
theorem Fr.trans (f : Fr R H H') (g : Fr R' H' H2) (m : ∀ a, R a → R' a) : Fr R H H2 := fun a o h e => by
  obtain ⟨o', h', v⟩ := f a o h e
  have q : R' a ∨ Stay o' := by
    rcases h with h | h
    · exact .inl (m a h)
    · exact .inr (by rw [h.vary v]; exact h)
  obtain ⟨o2, h2, v2⟩ := g a o' q h'
  exact ⟨o2, h2, v.trans v2⟩
end
mutual
theorem Rep.mono {K : PySem.W.Frag} {H : Hp} {R R' : Reg} {v : V} {d : D} (m : ∀ a, R a → R' a) : Rep K H R v d → Rep K H R' v d
  | .non => .non
  | .bl => .bl
  | .int => .int
  | .str => .str
  | .ty => .ty
  | .gl => .gl
  | .tup h r => .tup h (r.mono m)
  | .frl h => .frl h
  | .lst q h r => .lst (m _ q) h (r.mono fun a x => ⟨m a x.1, x.2⟩)
  | .dK q h e r => .dK (m _ q) h e (r.mono fun a x => ⟨m a x.1, x.2⟩)
  | .ins q h e r => .ins (m _ q) h e (r.mono fun a x => ⟨m a x.1, x.2⟩)
theorem Reps.mono {K : PySem.W.Frag} {H : Hp} {R R' : Reg} {vs : List V} {ds : List D} (m : ∀ a, R a → R' a) : Reps K H R vs ds → Reps K H R' vs ds
  | .nil => .nil
  | .cons h r => .cons (h.mono m) (r.mono m)
end
mutual
theorem Rep.fr {K : PySem.W.Frag} {H H' : Hp} {R : Reg} {v : V} {d : D} (f : Fr R H H') : Rep K H R v d → Rep K H' R v d
  | .non => .non
  | .bl => .bl
  | .int => .int
  | .str => .str
  | .ty => .ty
  | .gl => .gl
  | .tup h r => .tup (f.sqt h) (r.fr f)
  | .frl h => .frl (f.frl h)
  | .lst q h r => .lst q (f.lst q h) (r.fr (f.mono fun a x => x.1))
  | .dK q h e r => .dK q (f.rd_dK q h) e (r.fr (f.mono fun a x => x.1))
  | .ins q h e r => .ins q (f.ins q h) e (r.fr (f.mono fun a x => x.1))
theorem Reps.fr {K : PySem.W.Frag} {H H' : Hp} {R : Reg} {vs : List V} {ds : List D} (f : Fr R H H') : Reps K H R vs ds → Reps K H' R vs ds
  | .nil => .nil
  | .cons h r => .cons (h.fr f) (r.fr f)
end
/-- what is borne stands at addresses that are there -/
theorem Rd.there {H : Hp} {a : Addr} {u : HO} (h : Rd H a u) : H a ≠ none := by
  rcases h with h | ⟨_, h⟩ <;> rw [h] <;> exact fun q => nomatch q
mutual
theorem Rep.alloc {K : PySem.W.Frag} {H : Hp} {R : Reg} {v : V} {d : D} : Rep K H R v d → Rep K H (fun a => R a ∧ H a ≠ none) v d
  | .non => .non
  | .bl => .bl
  | .int => .int
  | .str => .str
  | .ty => .ty
  | .gl => .gl
  | .tup h r => .tup h r.alloc
  | .frl h => .frl h
  | .lst q h r => .lst ⟨q, Rd.there (.inl h)⟩ h (r.alloc.mono fun a x => ⟨⟨x.1.1, x.2⟩, x.1.2⟩)
  | .dK q h e r => .dK ⟨q, Rd.there h⟩ h e (r.alloc.mono fun a x => ⟨⟨x.1.1, x.2⟩, x.1.2⟩)
  | .ins q h e r => .ins ⟨q, fun z => by rw [h] at z; cases z⟩ h e (r.alloc.mono fun a x => ⟨⟨x.1.1, x.2⟩, x.1.2⟩)
theorem Reps.alloc {K : PySem.W.Frag} {H : Hp} {R : Reg} {vs : List V} {ds : List D} : Reps K H R vs ds → Reps K H (fun a => R a ∧ H a ≠ none) vs ds
  | .nil => .nil
  | .cons h r => .cons h.alloc r.alloc
end
mutual
theorem Rep.immR {K : PySem.W.Frag} {H : Hp} {R R' : Reg} {v : V} {d : D} (m : d.imm = true) : Rep K H R v d → Rep K H R' v d
  | .non => .non
  | .bl => .bl
  | .int => .int
  | .str => .str
  | .ty => .ty
  | .gl => .gl
  | .tup h r => .tup h (r.immR (by simpa [D.imm] using m))
  | .frl h => .frl h
  | .lst q h r => by simp [D.imm] at m
  | .dK q h e r => by simp [D.imm] at m
  | .ins q h e r => by simp [D.imm] at m
theorem Reps.immR {K : PySem.W.Frag} {H : Hp} {R R' : Reg} {vs : List V} {ds : List D} (m : D.imms ds = true) : Reps K H R vs ds → Reps K H R' vs ds
  | .nil => .nil
  | .cons h r => by
    simp only [D.imms, Bool.and_eq_true] at m
    exact .cons (h.immR m.1) (r.immR m.2)
end
theorem Reps.len {K : PySem.W.Frag} {H : Hp} {R : Reg} : ∀ {vs : List V} {ds : List D}, Reps K H R vs ds → vs.length = ds.length
  | _, _, .nil => rfl
  | _, _, .cons _ r => by simp [r.len]
theorem Reps.get {K : PySem.W.Frag} {H : Hp} {R : Reg} : ∀ {vs : List V} {ds : List D} {i : Nat} {d : D}, Reps K H R vs ds → ds[i]? = some d → ∃ v, vs[i]? = some v ∧ Rep K H R v d
  | _, _, _, _, .nil, e => by simp at e
  | _, _, 0, _, .cons h _, e => by simp at e; subst e; exact ⟨_, rfl, h⟩
  | _, _, i + 1, d, .cons _ r, e => by
    obtain ⟨v, h1, h2⟩ := Reps.get (i := i) (d := d) r (by simpa using e)
    exact ⟨v, by simpa using h1, h2⟩
theorem Reps.getV {K : PySem.W.Frag} {H : Hp} {R : Reg} : ∀ {vs : List V} {ds : List D} {i : Nat} {v : V}, Reps K H R vs ds → vs[i]? = some v → ∃ d, ds[i]? = some d ∧ Rep K H R v d
  | _, _, _, _, .nil, e => by simp at e
  | _, _, 0, _, .cons h _, e => by simp at e; subst e; exact ⟨_, rfl, h⟩
  | _, _, i + 1, d, .cons _ r, e => by
    obtain ⟨v, h1, h2⟩ := Reps.getV (i := i) (v := d) r (by simpa using e)
    exact ⟨v, by simpa using h1, h2⟩
theorem Reps.append {K : PySem.W.Frag} {H : Hp} {R : Reg} : ∀ {vs ws : List V} {ds es : List D}, Reps K H R vs ds → Reps K H R ws es → Reps K H R (vs ++ ws) (ds ++ es)
  | _, _, _, _, .nil, s => s
  | _, _, _, _, .cons h r, s => .cons h (r.append s)
theorem Reps.set {K : PySem.W.Frag} {H : Hp} {R : Reg} {v : V} {d : D} (q : Rep K H R v d) : ∀ {vs : List V} {ds : List D} (i : Nat), Reps K H R vs ds → Reps K H R (vs.set i v) (ds.set i d)
  | _, _, _, .nil => .nil
  | _, _, 0, .cons _ r => .cons q r
  | _, _, i + 1, .cons h r => .cons h (Reps.set q i r)
theorem Reps.take {K : PySem.W.Frag} {H : Hp} {R : Reg} : ∀ {vs : List V} {ds : List D} (n : Nat), Reps K H R vs ds → Reps K H R (vs.take n) (ds.take n)
  | _, _, 0, _ => .nil
  | _, _, _ + 1, .nil => .nil
  | _, _, n + 1, .cons h r => .cons h (Reps.take n r)
theorem Reps.drop {K : PySem.W.Frag} {H : Hp} {R : Reg} : ∀ {vs : List V} {ds : List D} (n : Nat), Reps K H R vs ds → Reps K H R (vs.drop n) (ds.drop n)
  | _, _, 0, r => r
  | _, _, _ + 1, .nil => .nil
  | _, _, n + 1, .cons _ r => Reps.drop n r
theorem Reps.reverse {K : PySem.W.Frag} {H : Hp} {R : Reg} : ∀ {vs : List V} {ds : List D}, Reps K H R vs ds → Reps K H R vs.reverse ds.reverse
  | _, _, .nil => .nil
  | _, _, .cons h r => by
    rw [List.reverse_cons, List.reverse_cons]
    exact r.reverse.append (.cons h .nil)
end GR
/-! GB -/
set_option linter.all false
set_option maxRecDepth 100000
/-! The slots' data; what an evaluation leaves; the judgements. -/
namespace GR
open PySem L2
/-- the tables of code objects: where they stand, and the name that all their code objects bear -/
class TabT where
  T : List (Addr × Str)
variable [TabT]
/-- something that is held while statements run (what a loop walks): stable under steps -/
structure Hold where
  P : Hp → Reg → Prop
  fr : ∀ H H' R, P H R → Fr R H H' → P H' R
  mono : ∀ H (R R' : Reg), P H R → (∀ a, R a → R' a) → P H R'
  alloc : ∀ H (R : Reg), P H R → P H (fun a => R a ∧ H a ≠ none)
/-- own: the slots that hold what this def may write; io: those of them that are the caller's; ex: the slots of exceptions at hand; xh: what is known of them -/
structure Cfg where
  own : List Nat
  io : List Nat
  ex : List (Nat × Addr)
  xh : List Hold
theorem of_nmem {l : List Nat} {i : Nat} (h : l.contains i = false) : i ∉ l := fun m => by
  have := List.contains_iff_mem.mpr m
  rw [h] at this; cases this
theorem of_mem {l : List Nat} {i : Nat} (h : l.contains i = true) : i ∈ l := List.contains_iff_mem.mp h
end GR
local macro_rules | `(tactic| walk_at "gmem") => `(tactic| first | decide | exact GR.of_mem rfl | exact GR.of_nmem rfl)
namespace GR
open PySem L2
variable [TabT]
abbrev Env := List (Option D)
def OwnAt (K : PySem.W.Frag) (H : Hp) (R : Reg) (p : Addr) : D → Prop
  | .lst ds => ∃ vs, H p = some (.lst vs) ∧ Reps K H R vs ds
  | .dK ks => ∃ kvs, H p = some (.dK kvs) ∧ kvs.map Prod.fst = ks.map Prod.fst ∧ Reps K H R (kvs.map Prod.snd) (ks.map Prod.snd)
  | .ins C gs => ∃ dx fs, H p = some (.ins C dx fs) ∧ fs.map Prod.fst = gs.map Prod.fst ∧ Reps K H R (fs.map Prod.snd) (gs.map Prod.snd)
  | _ => False
/-- the ground of a def's run: the arguments' region, the caller's things by slot, the heap at the entry, what is held -/
structure Gnd where
  A : Reg
  pa : List (Nat × Addr)
  H0 : Hp
  hs : List Hold
def Live (g : Cfg) (env : Env) (σ : St) (a : Addr) : Prop := ∃ i d, i ∈ g.own ∧ env[i]? = some (some d) ∧ σ[i]? = some (some (.ref a))
/-- what may be read and is never written: the arguments' region A, what is younger than the entry; not what is live -/
def Zr (G : Gnd) (g : Cfg) (env : Env) (σ : St) : Reg := fun a => (G.A a ∨ G.H0 a = none) ∧ ¬ Live g env σ a
structure EnvOk (K : PySem.W.Frag) (g : Cfg) (G : Gnd) (B : Nat → Reg) (σ : St) (H : Hp) (env : Env) : Prop where
  len : env.length = σ.length
  val : ∀ i d, env[i]? = some (some d) → i ∉ g.own → ∃ v, σ[i]? = some (some v) ∧ Rep K H (fun a => Zr G g env σ a ∧ B i a) v d
  own : ∀ i d, env[i]? = some (some d) → i ∈ g.own → ∃ p, σ[i]? = some (some (.ref p)) ∧ OwnAt K H (fun a => Zr G g env σ a ∧ B i a) p d ∧ (i ∈ g.io → (i, p) ∈ G.pa) ∧ (i ∉ g.io → G.H0 p = none)
  io : ∀ i p, (i, p) ∈ G.pa → i ∈ g.io ∧ i ∈ g.own ∧ σ[i]? = some (some (.ref p)) ∧ ∃ d, env[i]? = some (some d)
  ioall : ∀ i, i ∈ g.io → ∃ p, (i, p) ∈ G.pa
  apart : ∀ i j d d' p, i ∈ g.own → j ∈ g.own → env[i]? = some (some d) → env[j]? = some (some d') → σ[i]? = some (some (.ref p)) → σ[j]? = some (some (.ref p)) → i = j
  base : ∀ a o, (∀ i, (i, a) ∉ G.pa) → G.H0 a = some o → ∃ o', H a = some o' ∧ Up o o'
  tab : LamX.Tabs TabT.T H
  dom : ∀ a, H a = none → G.H0 a = none
  ap : ∀ i a, (i, a) ∈ G.pa → ¬ G.A a
  hold : ∀ h, h ∈ G.hs ∨ h ∈ g.xh → h.P H (fun a => Zr G g env σ a ∧ B 16777216 a)
  ex : ∀ x ∈ g.ex, σ[x.1]? = some (some (.ref x.2))
section
variable {K : PySem.W.Frag} {g : Cfg} {G : Gnd} {B B' : Nat → Reg} {H H' H1 H2 : Hp} {σ : St} {env env' env1 env2 : Env} {p : Addr} {d : D} {R R' : Reg}
theorem OwnAt.mono (m : ∀ a, R a → R' a) : ∀ {d : D}, OwnAt K H R p d → OwnAt K H R' p d
  | .lst _, ⟨vs, h, r⟩ => ⟨vs, h, r.mono m⟩
  | .dK _, ⟨kvs, h, e, r⟩ => ⟨kvs, h, e, r.mono m⟩
  | .ins _ _, ⟨dx, fs, h, e, r⟩ => ⟨dx, fs, h, e, r.mono m⟩
/-- the thing itself as it was, what it holds under a step -/
theorem OwnAt.fr (hp : ∀ o, H p = some o → H' p = some o) (f : Fr R H H') : ∀ {d : D}, OwnAt K H R p d → OwnAt K H' R p d
  | .lst _, ⟨vs, h, r⟩ => ⟨vs, hp _ h, r.fr f⟩
  | .dK _, ⟨kvs, h, e, r⟩ => ⟨kvs, hp _ h, e, r.fr f⟩
  | .ins _ _, ⟨dx, fs, h, e, r⟩ => ⟨dx, fs, hp _ h, e, r.fr f⟩
theorem OwnAt.there : ∀ {d : D}, OwnAt K H R p d → H p ≠ none
  | .lst _, ⟨vs, h, r⟩ => fun q => by rw [h] at q; cases q
  | .dK _, ⟨kvs, h, e, r⟩ => fun q => by rw [h] at q; cases q
  | .ins _ _, ⟨dx, fs, h, e, r⟩ => fun q => by rw [h] at q; cases q
theorem OwnAt.notFrz : ∀ {d : D}, OwnAt K H R p d → ∀ o u, H p ≠ some (.frz o u)
  | .lst _, ⟨vs, h, r⟩ => fun _ _ q => by rw [h] at q; cases q
  | .dK _, ⟨kvs, h, e, r⟩ => fun _ _ q => by rw [h] at q; cases q
  | .ins _ _, ⟨dx, fs, h, e, r⟩ => fun _ _ q => by rw [h] at q; cases q
theorem OwnAt.alloc : ∀ {d : D}, OwnAt K H R p d → OwnAt K H (fun a => R a ∧ H a ≠ none) p d
  | .lst _, ⟨vs, h, r⟩ => ⟨vs, h, r.alloc⟩
  | .dK _, ⟨kvs, h, e, r⟩ => ⟨kvs, h, e, r.alloc⟩
  | .ins _ _, ⟨dx, fs, h, e, r⟩ => ⟨dx, fs, h, e, r.alloc⟩
/-- taken as a value -/
theorem OwnAt.rep (q : R' p) (m : ∀ a, R a → R' a ∧ a ≠ p) : ∀ {d : D}, OwnAt K H R p d → Rep K H R' (.ref p) d
  | .lst _, ⟨vs, h, r⟩ => .lst q h (r.mono m)
  | .dK _, ⟨kvs, h, e, r⟩ => .dK q (.inl h) e (r.mono m)
  | .ins _ _, ⟨dx, fs, h, e, r⟩ => .ins q h e (r.mono m)
theorem EnvOk.liveThere (ok : EnvOk K g G B σ H env) {a : Addr} (l : Live g env σ a) : H a ≠ none := by
  obtain ⟨i, d, hi, he, hs⟩ := l
  obtain ⟨p, hp, ho, _⟩ := ok.own i d he hi
  rw [hs] at hp
  cases hp
  exact ho.there
theorem EnvOk.fresh (ok : EnvOk K g G B σ H env) {a : Addr} (h : H a = none) : Zr G g env σ a := ⟨.inr (ok.dom a h), fun l => ok.liveThere l h⟩
/-- a step that keeps what is live to the letter -/
theorem EnvOk.step (ok : EnvOk K g G B σ H env) (s : ∀ a o, H a = some o → H' a = some o) : EnvOk K g G B σ H' env where
  len := ok.len
  val i d e n := by
    obtain ⟨v, h1, h2⟩ := ok.val i d e n
    exact ⟨v, h1, h2.fr (Fr.of_same s)⟩
  own i d e n := by
    obtain ⟨q, h1, h2, h3⟩ := ok.own i d e n
    exact ⟨q, h1, h2.fr (s q) (Fr.of_same s), h3⟩
  io := ok.io
  ioall := ok.ioall
  apart := ok.apart
  base a o n h := by
    obtain ⟨o', h1, u⟩ := ok.base a o n h
    exact ⟨o', s a o' h1, u⟩
  tab := ok.tab.ext s
  dom a h := ok.dom a (by
    cases e : H a with
    | none => rfl
    | some o => rw [s a o e] at h; cases h)
  ap := ok.ap
  hold h m := h.fr _ _ _ (ok.hold h m) (Fr.of_same s)
  ex := ok.ex
theorem EnvOk.monoB (ok : EnvOk K g G B σ H env) (m : ∀ i a, B i a → B' i a) : EnvOk K g G B' σ H env where
  len := ok.len
  val i d e n := by
    obtain ⟨v, h1, h2⟩ := ok.val i d e n
    exact ⟨v, h1, h2.mono fun a x => ⟨x.1, m _ a x.2⟩⟩
  own i d e n := by
    obtain ⟨q, h1, h2, h3⟩ := ok.own i d e n
    exact ⟨q, h1, h2.mono fun a x => ⟨x.1, m _ a x.2⟩, h3⟩
  io := ok.io
  ioall := ok.ioall
  apart := ok.apart
  base := ok.base
  tab := ok.tab
  dom := ok.dom
  ap := ok.ap
  hold h q := h.mono _ _ _ (ok.hold h q) fun a x => ⟨x.1, m _ a x.2⟩
  ex := ok.ex
/-- all that the slots hold is there -/
theorem EnvOk.allocB (ok : EnvOk K g G B σ H env) : EnvOk K g G (fun i a => B i a ∧ H a ≠ none) σ H env where
  len := ok.len
  val i d e n := by
    obtain ⟨v, h1, h2⟩ := ok.val i d e n
    exact ⟨v, h1, h2.alloc.mono fun a x => ⟨x.1.1, x.1.2, x.2⟩⟩
  own i d e n := by
    obtain ⟨q, h1, h2, h3⟩ := ok.own i d e n
    exact ⟨q, h1, h2.alloc.mono fun a x => ⟨x.1.1, x.1.2, x.2⟩, h3⟩
  io := ok.io
  ioall := ok.ioall
  apart := ok.apart
  base := ok.base
  tab := ok.tab
  dom := ok.dom
  ap := ok.ap
  hold h q := h.mono _ _ _ (h.alloc _ _ (ok.hold h q)) fun a x => ⟨x.1.1, x.1.2, x.2⟩
  ex := ok.ex
theorem set_none_get {env : Env} {i j : Nat} {d : D} (h : (env.set i none)[j]? = some (some d)) : env[j]? = some (some d) ∧ j ≠ i := by
  rw [List.getElem?_set] at h
  split at h
  · split at h <;> cases h
  · rename_i n; exact ⟨h, fun q => n q.symm⟩
/-- a slot is let go -/
theorem EnvOk.drop (ok : EnvOk K g G B σ H env) (i : Nat) (hi : i ∉ g.io) : EnvOk K g G B σ H (env.set i none) := by
  have lv : ∀ a, Live g (env.set i none) σ a → Live g env σ a := fun a ⟨j, d, h1, h2, h3⟩ => ⟨j, d, h1, (set_none_get h2).1, h3⟩
  have zr : ∀ a, Zr G g env σ a → Zr G g (env.set i none) σ a := fun a ⟨h, n⟩ => ⟨h, fun q => n (lv a q)⟩
  exact {
    len := by rw [List.length_set]; exact ok.len
    val := fun j d e n => by
      obtain ⟨v, h1, h2⟩ := ok.val j d (set_none_get e).1 n
      exact ⟨v, h1, h2.mono fun a x => ⟨zr a x.1, x.2⟩⟩
    own := fun j d e n => by
      obtain ⟨q, h1, h2, h3⟩ := ok.own j d (set_none_get e).1 n
      exact ⟨q, h1, h2.mono fun a x => ⟨zr a x.1, x.2⟩, h3⟩
    io := fun j p h => by
      obtain ⟨h1, h2, h3, d, h4⟩ := ok.io j p h
      have ne : ¬ i = j := fun q => hi (by rw [q]; exact h1)
      exact ⟨h1, h2, h3, d, by rw [List.getElem?_set, if_neg ne]; exact h4⟩
    ioall := ok.ioall
    apart := fun a b d d' p ha hb h1 h2 => ok.apart a b d d' p ha hb (set_none_get h1).1 (set_none_get h2).1
    base := ok.base
    tab := ok.tab
    dom := ok.dom
    ap := ok.ap
    hold := fun h q => h.mono _ _ _ (ok.hold h q) fun a x => ⟨zr a x.1, x.2⟩
    ex := ok.ex }
end
/-- o is a list, a dict, an instance -/
def Box (o : HO) : Prop := (∃ vs, o = .lst vs) ∨ (∃ kvs, o = .dK kvs) ∨ ∃ C dx fs, o = .ins C dx fs
section
variable {K : PySem.W.Frag} {H : Hp} {R : Reg} {p : Addr} {d : D} {o : HO}
theorem Box.noStay (b : Box o) : ¬ Stay o := by
  rcases b with ⟨_, rfl⟩ | ⟨_, rfl⟩ | ⟨_, _, _, rfl⟩ <;> exact fun h => h
theorem Box.noTbl (b : Box o) : ∀ ps, o ≠ .tbl ps := by
  rintro ps rfl
  rcases b with ⟨_, h⟩ | ⟨_, h⟩ | ⟨_, _, _, h⟩ <;> cases h
theorem OwnAt.box (ow : OwnAt K H R p d) : ∃ o, H p = some o ∧ Box o := by
  cases d with
  | lst ds => obtain ⟨vs, h, _⟩ := ow; exact ⟨_, h, .inl ⟨_, rfl⟩⟩
  | dK ds => obtain ⟨vs, h, _⟩ := ow; exact ⟨_, h, .inr (.inl ⟨_, rfl⟩)⟩
  | ins C ds => obtain ⟨dx, vs, h, _⟩ := ow; exact ⟨_, h, .inr (.inr ⟨_, _, _, rfl⟩)⟩
  | _ => exact ow.elim
end
theorem tabs_upd {T : List (Addr × Str)} {H : Hp} {p : Addr} {o' : HO} (t : LamX.Tabs T H) (h1 : ∀ ps, H p ≠ some (.tbl ps)) (h2 : ∀ c q, H p ≠ some (LamX.CodeO c q)) : LamX.Tabs T (upd H p o') := fun x hx => by
  obtain ⟨ps, e1, e2, e3⟩ := t x hx
  refine ⟨ps, ?_, e2, fun pos cv hc => ?_⟩
  · rw [upd_ne fun z => h1 ps (by rw [← z]; exact e1)]; exact e1
  · obtain ⟨c, a1, a2⟩ := e3 pos cv hc
    refine ⟨c, a1, ?_⟩
    rw [upd_ne fun z => h2 c x.2 (by rw [← z]; exact a2)]; exact a2
theorem Box.noCode {o : HO} (b : Box o) : ∀ c q, o ≠ LamX.CodeO c q := by
  rintro c q rfl
  rcases b with ⟨_, h⟩ | ⟨_, h⟩ | ⟨_, _, _, h⟩ <;> (unfold LamX.CodeO at h; cases h)
/-- what an evaluation leaves -/
structure Stp (K : PySem.W.Frag) (g : Cfg) (G : Gnd) (B : Nat → Reg) (σ : St) (H : Hp) (env : Env) (H' : Hp) (env' : Env) : Prop where
  ok : EnvOk K g G B σ H' env'
  fr : Fr (fun a => ¬ Live g env σ a) H H'
  live : ∀ a, Live g env' σ a → Live g env σ a
  dom : ∀ a, H' a = none → H a = none
section
variable {K : PySem.W.Frag} {g : Cfg} {G : Gnd} {B B' : Nat → Reg} {H H' H1 H2 : Hp} {σ : St} {env env' env1 env2 : Env} {p : Addr} {d : D} {v : V} {vs : List V} {ds : List D}
theorem Stp.refl (ok : EnvOk K g G B σ H env) : Stp K g G B σ H env H env := ⟨ok, Fr.refl, fun _ h => h, fun _ h => h⟩
theorem Stp.trans (a : Stp K g G B σ H env H1 env1) (b : Stp K g G B σ H1 env1 H2 env2) : Stp K g G B σ H env H2 env2 :=
  ⟨b.ok, a.fr.trans b.fr fun x n l => n (a.live x l), fun x l => a.live x (b.live x l), fun x l => a.dom x (b.dom x l)⟩
theorem Stp.zr (s : Stp K g G B σ H env H' env') : ∀ a, Zr G g env σ a → Zr G g env' σ a := fun a ⟨h, n⟩ => ⟨h, fun q => n (s.live a q)⟩
/-- a value that stood before -/
theorem Stp.rep (s : Stp K g G B σ H env H' env') (r : Rep K H (Zr G g env σ) v d) : Rep K H' (Zr G g env' σ) v d :=
  (r.fr (s.fr.mono fun a x => x.2)).mono s.zr
theorem Stp.reps (s : Stp K g G B σ H env H' env') (r : Reps K H (Zr G g env σ) vs ds) : Reps K H' (Zr G g env' σ) vs ds :=
  (r.fr (s.fr.mono fun a x => x.2)).mono s.zr
theorem upd_same_of {o : HO} (h : H p = none) : ∀ a u, H a = some u → upd H p o a = some u := fun a u e => by
  rw [upd_ne (ne_of_none e h)]; exact e
theorem upd_dom {o : HO} : ∀ a, upd H p o a = none → H a = none := fun a e => by
  by_cases q : a = p
  · subst q; rw [upd_same] at e; cases e
  · rw [upd_ne q] at e; exact e
/-- new objects come beside -/
theorem Stp.grow (s : Stp K g G B σ H env H1 env1) (e : ∀ a o, H1 a = some o → H2 a = some o) : Stp K g G B σ H env H2 env1 :=
  s.trans ⟨s.ok.step e, Fr.of_same e, fun _ h => h, fun a h => by
    cases q : H1 a with
    | none => rfl
    | some o => rw [e a o q] at h; cases h⟩
theorem fr_up {R : Reg} (e : ∀ a o, H1 a = some o → ∃ o', H2 a = some o' ∧ Up o o') : Fr R H1 H2 := fun a o _ h => by
  obtain ⟨o', h1, u⟩ := e a o h
  exact ⟨o', h1, .inl u⟩
theorem EnvOk.stepU (ok : EnvOk K g G B σ H env) (s : ∀ a o, H a = some o → ∃ o', H' a = some o' ∧ Up o o') (t : LamX.Tabs TabT.T H') : EnvOk K g G B σ H' env where
  len := ok.len
  val i d e n := by
    obtain ⟨v, h1, h2⟩ := ok.val i d e n
    exact ⟨v, h1, h2.fr (fr_up s)⟩
  own i d e n := by
    obtain ⟨q, h1, h2, h3⟩ := ok.own i d e n
    refine ⟨q, h1, h2.fr (fun o h => ?_) (fr_up s), h3⟩
    obtain ⟨o', h4, u⟩ := s q o h
    obtain ⟨ob, hb, bx⟩ := h2.box
    cases Option.some.inj (hb.symm.trans h)
    rw [h4, u.eq bx.noTbl]
  io := ok.io
  ioall := ok.ioall
  apart := ok.apart
  base a o n h := by
    obtain ⟨o', h1, u⟩ := ok.base a o n h
    obtain ⟨o2, h2, u2⟩ := s a o' h1
    exact ⟨o2, h2, u.trans u2⟩
  tab := t
  dom a h := ok.dom a (by
    cases e : H a with
    | none => rfl
    | some o =>
      obtain ⟨o', h1, _⟩ := s a o e
      rw [h1] at h; cases h)
  ap := ok.ap
  hold h m := h.fr _ _ _ (ok.hold h m) (fr_up s)
  ex := ok.ex
/-- new objects come beside, tables grow -/
theorem Stp.growU (s : Stp K g G B σ H env H1 env1) (e : ∀ a o, H1 a = some o → ∃ o', H2 a = some o' ∧ Up o o') (t : LamX.Tabs TabT.T H2) : Stp K g G B σ H env H2 env1 :=
  s.trans ⟨s.ok.stepU e t, fr_up e, fun _ h => h, fun a h => by
    cases q : H1 a with
    | none => rfl
    | some o =>
      obtain ⟨o', h1, _⟩ := e a o q
      rw [h1] at h; cases h⟩
end
/-- a reference is to a new thing, and that is not locked -/
def NewV (H H' : Hp) (v : V) : Prop := ∀ p, v = .ref p → H p = none ∧ ∀ o u, H' p ≠ some (.frz o u)
theorem NewV.back {H H1 H' : Hp} {v : V} (n : NewV H1 H' v) (d : ∀ a, H1 a = none → H a = none) : NewV H H' v := fun p e => ⟨d p (n p e).1, (n p e).2⟩
theorem NewV.no {H H' : Hp} {v : V} (h : ∀ p, v ≠ .ref p) : NewV H H' v := fun p e => absurd e (h p)
theorem NewV.upd {H : Hp} {p : Addr} {o : HO} (h : H p = none) (n : ∀ q u, o ≠ .frz q u) : NewV H (upd H p o) (.ref p) := fun q e => by
  cases e
  exact ⟨h, fun q u z => by rw [upd_same] at z; exact n q u (Option.some.inj z)⟩
/-! ### what an expression, an argument list, a test, a statement gives -/
inductive R1 where
  | val (d : D) | slot (i : Nat) | exc (C : Addr) (d : D)
abbrev EF := Env → Option (R1 × Env)
/-- an exception of the class at C, its dict at a, that bears d -/
def ExcAt (K : PySem.W.Frag) (H : Hp) (R : Reg) (a : Addr) (d : D) : Prop := ∃ v, H a = some (.xd [("value", v)]) ∧ Rep K H R v d
def DEr (K : PySem.W.Frag) (g : Cfg) (W : WX) (tn : Bool) (f : EF) : TE := fun σ H Q => ∃ G B env, EnvOk K g G B σ H env ∧
  match f env with
  | some (.val d, env') => ∀ v H', Stp K g G B σ H env H' env' → Rep K H' (Zr G g env' σ) v d → (tn = true → NewV H H' v) → Q v H'
  | some (.slot i, env') => ∀ v H', Stp K g G B σ H env H' env' → σ[i]? = some (some v) → i ∈ g.own → Q v H'
  | some (.exc C d, env') => ∀ a H', Stp K g G B σ H env H' env' → ExcAt K H' (Zr G g env' σ) a d → W (.ref C) (some a) σ H'
  | none => False
def DE (X : Cx) (g : Cfg) (W : WX) (tn : Bool) (e : Expr) (f : EF) : Prop := PE X e (DEr X.K g W tn f)
/-- a late value, at its use -/
def res : R1 → Env → Option D
  | .val d, _ => some d
  | .slot i, env => env[i]?.join
  | .exc _ _, _ => none
/-- a value, or a thing of ours that is read for now -/
def RepB (K : PySem.W.Frag) (H : Hp) (R L : Reg) (v : V) (d : D) : Prop := Rep K H R v d ∨ ∃ p, v = .ref p ∧ L p ∧ OwnAt K H R p d
/-- how a late value stands -/
def Late (K : PySem.W.Frag) (g : Cfg) (G : Gnd) (σ : St) (H : Hp) (env : Env) (v : V) : R1 → Prop
  | .val d => Rep K H (Zr G g env σ) v d
  | .slot i => σ[i]? = some (some v) ∧ i ∈ g.own
  | .exc _ _ => False
theorem _root_.L2.PE.imp {X : Cx} {e : Expr} {t t' : TE} (h : PE X e t) (m : ∀ σ H Q, t' σ H Q → t σ H Q) : PE X e t' := ⟨fun pins s σ H Q I q => h.run pins s σ H Q I (m σ H Q q)⟩
theorem _root_.L2.PT.imp {X : Cx} {e : Expr} {t t' : TT} (h : PT X e t) (m : ∀ σ H Q, t' σ H Q → t σ H Q) : PT X e t' := ⟨fun pins s σ H Q I q => h.run pins s σ H Q I (m σ H Q q)⟩
theorem _root_.L2.PA.imp {X : Cx} {e : List Expr} {t t' : TA} (h : PA X e t) (m : ∀ σ H Q, t' σ H Q → t σ H Q) : PA X e t' := ⟨fun pos pins s σ H Q I q => h.run pos pins s σ H Q I (m σ H Q q)⟩
theorem _root_.L2.PS.imp {X : Cx} {e : Stmt} {t t' : TS} (h : PS X e t) (m : ∀ D σ H, t' D σ H → t D σ H) : PS X e t' := ⟨fun pins s σ H D I q => h.run pins s σ H D I (m D σ H q)⟩
theorem _root_.L2.PSs.imp {X : Cx} {e : List Stmt} {t t' : TS} (h : PSs X e t) (m : ∀ D σ H, t' D σ H → t D σ H) : PSs X e t' := ⟨fun pins s σ H D I q => h.run pins s σ H D I (m D σ H q)⟩
section
variable {K : PySem.W.Frag} {g : Cfg} {G : Gnd} {B B' : Nat → Reg} {H H' H1 H2 : Hp} {σ : St} {env env' env1 env2 : Env} {p : Addr} {d : D} {v : V} {r : R1} {W : WX} {tn : Bool} {f : EF} {Q : VK}
theorem Late.stp (s : Stp K g G B σ H env H' env') (l : Late K g G σ H env v r) : Late K g G σ H' env' v r := by
  cases r with
  | val d => exact s.rep l
  | slot i => exact l
  | exc C d => exact l
theorem Late.res (ok : EnvOk K g G B σ H env) (l : Late K g G σ H env v r) (e : res r env = some d) : RepB K H (Zr G g env σ) (Live g env σ) v d := by
  cases r with
  | val d' => cases e; exact .inl l
  | slot i =>
    obtain ⟨h1, h2⟩ := l
    have e' : env[i]? = some (some d) := by
      have e2 : env[i]?.join = some d := e
      cases q : env[i]? with
      | none => rw [q] at e2; cases e2
      | some o => rw [q] at e2; cases o with
        | none => cases e2
        | some x => cases e2; rfl
    obtain ⟨p, hp, ho, _⟩ := ok.own i d e' h2
    rw [h1] at hp; cases hp
    exact .inr ⟨p, rfl, ⟨i, d, h2, e', h1⟩, ho.mono fun a x => x.1⟩
  | exc C d => exact l.elim
/-- use an expression's reading: any late value, or the exception -/
theorem DEr.intro (ok : EnvOk K g G B σ H env) {r : R1} (e : f env = some (r, env'))
    (k : ∀ v H', Stp K g G B σ H env H' env' → Late K g G σ H' env' v r → (∀ d, r = .val d → tn = true → NewV H H' v) → Q v H')
    (x : ∀ C d, r = .exc C d → ∀ a H', Stp K g G B σ H env H' env' → ExcAt K H' (Zr G g env' σ) a d → W (.ref C) (some a) σ H') : DEr K g W tn f σ H Q := by
  refine ⟨G, B, env, ok, ?_⟩
  rw [e]
  cases r with
  | val d => exact fun v H' s r t => k v H' s r fun _ _ => t
  | slot i => exact fun v H' s h1 h2 => k v H' s ⟨h1, h2⟩ fun _ q => nomatch q
  | exc C d => exact fun a H' s h => x C d rfl a H' s h
end
end GR
/-! GC -/
set_option linter.all false
set_option maxRecDepth 100000
/-! Expressions: names, constants, operators, displays. -/
namespace GR
open PySem L2
variable [TabT]
section
variable {K : PySem.W.Frag} {g : Cfg} {G : Gnd} {B B' : Nat → Reg} {H H' H1 H2 : Hp} {σ : St} {env env' env1 env2 : Env} {p : Addr} {d : D} {v : V} {vs : List V} {ds : List D} {R L : Reg}
theorem join_of {i : Nat} (e : env[i]?.join = some d) : env[i]? = some (some d) := by
  cases q : env[i]? with
  | none => rw [q] at e; cases e
  | some o => rw [q] at e; cases o with
    | none => cases e
    | some x => cases e; rfl
/-! ### new things -/
theorem Rep.newTup (hp : H p = none) (r : Reps K H R vs ds) : Rep K (upd H p (.tup vs)) R (.ref p) (.tup ds) :=
  .tup (SqT.of upd_same) (r.fr (Fr.of_same (upd_same_of hp)))
theorem Reps.newR (hp : H p = none) {o : HO} (r : Reps K H R vs ds) : Reps K (upd H p o) (fun b => R b ∧ b ≠ p) vs ds :=
  (r.alloc.mono fun a x => (⟨x.1, fun q => x.2 (by rw [q]; exact hp)⟩ : R a ∧ a ≠ p)).fr (Fr.of_same (upd_same_of hp))
theorem Rep.newLst (hp : H p = none) (q : R p) (r : Reps K H R vs ds) : Rep K (upd H p (.lst vs)) R (.ref p) (.lst ds) := .lst q upd_same (r.newR hp)
theorem Rep.newDK (hp : H p = none) (q : R p) {kvs : List (Key × V)} {ks : List (Key × D)} (e : kvs.map Prod.fst = ks.map Prod.fst) (r : Reps K H R (kvs.map Prod.snd) (ks.map Prod.snd)) : Rep K (upd H p (.dK kvs)) R (.ref p) (.dK ks) :=
  .dK q (.inl upd_same) e (r.newR hp)
theorem Rep.up (hp : H p = none) {o : HO} (r : Rep K H R v d) : Rep K (upd H p o) R v d := r.fr (Fr.of_same (upd_same_of hp))
/-! ### what a borrowed value tells -/
theorem RepB.lst {ds : List D} (r : RepB K H R L v (.lst ds)) : ∃ p vs, v = .ref p ∧ H p = some (.lst vs) ∧ Reps K H R vs ds := by
  rcases r with r | ⟨p, rfl, _, vs, h, r⟩
  · cases r with
    | lst q h r => exact ⟨_, _, rfl, h, r.mono fun _ x => x.1⟩
  · exact ⟨p, vs, rfl, h, r⟩
theorem RepB.frl {is : List Int} (r : RepB K H R L v (.frl is)) : ∃ p, v = .ref p ∧ SqL K H p (is.map V.int) := by
  rcases r with r | ⟨p, rfl, _, h⟩
  · cases r with
    | frl h => exact ⟨_, rfl, h.seq⟩
  · exact h.elim
theorem RepB.dK {ks : List (Key × D)} (r : RepB K H R L v (.dK ks)) : ∃ p kvs, v = .ref p ∧ Rd H p (.dK kvs) ∧ kvs.map Prod.fst = ks.map Prod.fst ∧ Reps K H R (kvs.map Prod.snd) (ks.map Prod.snd) := by
  rcases r with r | ⟨p, rfl, _, kvs, h, e, r⟩
  · cases r with
    | dK q h e r => exact ⟨_, _, rfl, h, e, r.mono fun _ x => x.1⟩
  · exact ⟨p, kvs, rfl, .inl h, e, r⟩
theorem RepB.ins {C : Addr} {gs : List (Str × D)} (r : RepB K H R L v (.ins C gs)) : ∃ p dx fs, v = .ref p ∧ H p = some (.ins C dx fs) ∧ fs.map Prod.fst = gs.map Prod.fst ∧ Reps K H R (fs.map Prod.snd) (gs.map Prod.snd) := by
  rcases r with r | ⟨p, rfl, _, dx, fs, h, e, r⟩
  · cases r with
    | ins q h e r => exact ⟨_, _, _, rfl, h, e, r.mono fun _ x => x.1⟩
  · exact ⟨p, dx, fs, rfl, h, e, r⟩
theorem RepB.tup {ds : List D} (r : RepB K H R L v (.tup ds)) : ∃ p vs, v = .ref p ∧ SqT K H p vs ∧ Reps K H R vs ds := by
  rcases r with r | ⟨p, rfl, _, h⟩
  · cases r with
    | tup h r => exact ⟨_, _, rfl, h, r⟩
  · exact h.elim
theorem RepB.int {i : Int} (r : RepB K H R L v (.int i)) : v = .int i := by
  rcases r with r | ⟨p, rfl, _, h⟩
  · cases r; rfl
  · exact h.elim
theorem RepB.bl {i : Bool} (r : RepB K H R L v (.bl i)) : v = .bl i := by
  rcases r with r | ⟨p, rfl, _, h⟩
  · cases r; rfl
  · exact h.elim
theorem RepB.str {i : Str} (r : RepB K H R L v (.str i)) : v = .str i := by
  rcases r with r | ⟨p, rfl, _, h⟩
  · cases r; rfl
  · exact h.elim
theorem RepB.non (r : RepB K H R L v .non) : v = .non := by
  rcases r with r | ⟨p, rfl, _, h⟩
  · cases r; rfl
  · exact h.elim
theorem RepB.ty {n : String} (r : RepB K H R L v (.ty n)) : v = .ty n := by
  rcases r with r | ⟨p, rfl, _, h⟩
  · cases r; rfl
  · exact h.elim
theorem RepB.gl {a : Addr} (r : RepB K H R L v (.gl a)) : v = .ref a := by
  rcases r with r | ⟨p, rfl, _, h⟩
  · cases r; rfl
  · exact h.elim
theorem RepB.of (r : Rep K H R v d) : RepB K H R L v d := .inl r
end
/-! ### the parts -/
def bind1 (fa : EF) (k : R1 → Env → Option (R1 × Env)) : EF := fun env =>
  match fa env with
  | some (.exc C d, e) => some (.exc C d, e)
  | some (.val d, e) => k (.val d) e
  | some (.slot i, e) => k (.slot i) e
  | none => none
section
variable {X : Cx} {g : Cfg} {W : WX} {tn ta tb tc : Bool} {a b c e : Expr} {fa fb fc f : EF} {pos : Pos}
theorem de_false (h : DE X g W tn e f) : DE X g W false e f := h.imp fun σ H Q ⟨G, B, env, ok, q⟩ => ⟨G, B, env, ok, by
  split at q
  · exact fun v H' s r _ => q v H' s r fun z => nomatch z
  · exact q
  · exact q
  · exact q⟩
/-! ### names, constants -/
def fVar (i : Nat) : EF := fun env => match env[i]?.join with
  | some d => some (.val d, env)
  | none => none
def fOwn (i : Nat) : EF := fun env => match env[i]?.join with
  | some _ => some (.slot i, env)
  | none => none
def fC (d : D) : EF := fun env => some (.val d, env)
theorem de_var (i : Nat) {x : Str} (hi : i ∉ g.own := by walk_at "gmem") (hN : X.N[i]? = some x := by rfl) (hv : Vis X.env.scope x := by first | exact Or.inl rfl | exact Or.inr (Or.inl rfl) | exact Or.inr (Or.inr rfl)) (hd : (x == ("__debug__" : Str)) = false := by decide) (hcd : (x == ("__classdict__" : Str)) = false := by decide) :
    DE X g W false (.Name x pos) (fVar i) := (pv i hN hv hd hcd).imp fun σ H Q ⟨G, B, env, ok, q⟩ => by
  unfold fVar at q
  cases e : env[i]?.join with
  | none => rw [e] at q; exact q.elim
  | some d =>
    rw [e] at q
    obtain ⟨v, h1, h2⟩ := ok.val i d (join_of e) hi
    exact ⟨v, h1, q v H (Stp.refl ok) (h2.mono fun _ x => x.1) fun z => nomatch z⟩
theorem de_own (i : Nat) {x : Str} (hi : i ∈ g.own := by walk_at "gmem") (hN : X.N[i]? = some x := by rfl) (hv : Vis X.env.scope x := by first | exact Or.inl rfl | exact Or.inr (Or.inl rfl) | exact Or.inr (Or.inr rfl)) (hd : (x == ("__debug__" : Str)) = false := by decide) (hcd : (x == ("__classdict__" : Str)) = false := by decide) :
    DE X g W true (.Name x pos) (fOwn i) := (pv i hN hv hd hcd).imp fun σ H Q ⟨G, B, env, ok, q⟩ => by
  unfold fOwn at q
  cases e : env[i]?.join with
  | none => rw [e] at q; exact q.elim
  | some d =>
    rw [e] at q
    obtain ⟨p, h1, h2⟩ := ok.own i d (join_of e) hi
    exact ⟨_, h1, q _ H (Stp.refl ok) h1 hi⟩
theorem de_c {t : TE} {v : V} {d : D} (h : PE X e t) (hv : ∀ σ H Q, Q v H → t σ H Q) (r : ∀ H R, Rep X.K H R v d) (n : ∀ p, v ≠ .ref p := by intro p q; cases q) : DE X g W true e (fC d) := h.imp fun σ H Q ⟨G, B, env, ok, q⟩ => hv σ H Q (q v H (Stp.refl ok) (r _ _) fun _ => NewV.no n)
theorem de_int {i j} : DE X g W true (.Constant (.int i) j pos) (fC (.int i)) := de_c pe_int (fun _ _ _ q => q) fun _ _ => .int
theorem de_bl {i j} : DE X g W true (.Constant (.bool i) j pos) (fC (.bl i)) := de_c pe_bl (fun _ _ _ q => q) fun _ _ => .bl
theorem de_non {j} : DE X g W true (.Constant .none j pos) (fC .non) := de_c pe_non (fun _ _ _ q => q) fun _ _ => .non
theorem de_str {x j} : DE X g W true (.Constant (.str x) j pos) (fC (.str x)) := de_c pe_str (fun _ _ _ q => q) fun _ _ => .str
/-- a thing of the module -/
theorem de_glob {x : Str} {u : Value} {v : V} {d : D} (hg : Gl X x) (hm : X.mg x = some u) (rv : RelV v u) (r : ∀ H R, Rep X.K H R v d) (hd : (x == ("__debug__" : Str)) = false := by decide) : DE X g W false (.Name x pos) (fC d) :=
  (pe_glob hg hm rv hd).imp fun σ H Q ⟨G, B, env, ok, q⟩ => q v H (Stp.refl ok) (r _ _) fun z => nomatch z
theorem de_blt {x : Str} {n : String} (hg : Gl X x) (hm : X.mg x = none) (hv : bootBuiltins x = some (.type n)) (hn : x ≠ "__name__" := by decide) (hd : (x == ("__debug__" : Str)) = false := by decide) : DE X g W false (.Name x pos) (fC (.ty n)) :=
  (pe_bltn hg hm hv (show RelV (.ty n) _ from rfl) hn hd).imp fun σ H Q ⟨G, B, env, ok, q⟩ => q _ H (Stp.refl ok) .ty fun z => nomatch z
end
/-! ### operators -/
/-- an operation on values is one on data -/
def Op2 (K : PySem.W.Frag) (r : R2) (tn : Bool) (gg : D → D → Option D) : Prop :=
  ∀ (H : Hp) (R L : Reg) (x y : V) (dx dy d : D) (Q : VK), RepB K H R L x dx → RepB K H R L y dy → (∀ a, H a = none → R a) → gg dx dy = some d →
    (∀ v H', (∀ a o, H a = some o → H' a = some o) → Rep K H' R v d → (tn = true → NewV H H' v) → Q v H') → r x y H Q
def Op1 (K : PySem.W.Frag) (r : V → Hp → VK → Prop) (tn : Bool) (gg : D → Option D) : Prop :=
  ∀ (H : Hp) (R L : Reg) (x : V) (dx d : D) (Q : VK), RepB K H R L x dx → (∀ a, H a = none → R a) → gg dx = some d →
    (∀ v H', (∀ a o, H a = some o → H' a = some o) → Rep K H' R v d → (tn = true → NewV H H' v) → Q v H') → r x H Q
def fOp2 (gg : D → D → Option D) (fa fb : EF) : EF := bind1 fa fun ra e1 => (bind1 fb fun rb e2 =>
  match res ra e2 with
  | some da => match res rb e2 with
    | some db => match gg da db with
      | some d => some (.val d, e2)
      | none => none
    | none => none
  | none => none) e1
def fOp1 (gg : D → Option D) (fa : EF) : EF := bind1 fa fun ra e1 =>
  match res ra e1 with
  | some da => match gg da with
    | some d => some (.val d, e1)
    | none => none
  | none => none
section
variable {K : PySem.W.Frag} {g : Cfg} {W : WX} {tn : Bool} {fa fb : EF} {σ : St} {H : Hp} {Q : VK} {G : Gnd} {B : Nat → Reg} {env : Env}
/-- use a part's reading within bind1 -/
theorem bind1_use {k : R1 → Env → Option (R1 × Env)} {tn' : Bool} {Qa : VK} (ok : EnvOk K g G B σ H env) {out : Option (R1 × Env)} (eo : bind1 fa k env = out)
    (hx : ∀ C d e1, fa env = some (.exc C d, e1) → out = some (.exc C d, e1) → ∀ a H', Stp K g G B σ H env H' e1 → ExcAt K H' (Zr G g e1 σ) a d → W (.ref C) (some a) σ H')
    (hn : out ≠ none)
    (hk : ∀ r e1 v H1, fa env = some (r, e1) → (∀ C d, r ≠ .exc C d) → k r e1 = out → Stp K g G B σ H env H1 e1 → Late K g G σ H1 e1 v r → (∀ d, r = .val d → tn' = true → NewV H H1 v) → Qa v H1) : DEr K g W tn' fa σ H Qa := by
  unfold bind1 at eo
  cases e : fa env with
  | none => rw [e] at eo; exact absurd eo.symm hn
  | some re =>
    obtain ⟨r, e1⟩ := re
    rw [e] at eo
    refine DEr.intro ok e (fun v H' s l t => ?_) (fun C d er a H' s ha => ?_)
    · cases r with
      | val d => exact hk _ _ _ _ e (fun _ _ q => nomatch q) eo s l t
      | slot i => exact hk _ _ _ _ e (fun _ _ q => nomatch q) eo s l t
      | exc C d => exact l.elim
    · subst er
      exact hx C d e1 e eo.symm a H' s ha
/-- hand a reading's end on -/
theorem DEr.out {f : EF} (h : DEr K g W tn f σ H Q) : ∃ G B env r env', EnvOk K g G B σ H env ∧ f env = some (r, env') ∧
    (∀ v H', Stp K g G B σ H env H' env' → Late K g G σ H' env' v r → (∀ d, r = .val d → tn = true → NewV H H' v) → Q v H') ∧
    ∀ C d, r = .exc C d → ∀ a H', Stp K g G B σ H env H' env' → ExcAt K H' (Zr G g env' σ) a d → W (.ref C) (some a) σ H' := by
  obtain ⟨G, B, env, ok, q⟩ := h
  split at q
  · rename_i d env' e
    exact ⟨G, B, env, _, env', ok, e, fun v H' s l t => q v H' s l (t d rfl), fun _ _ z => nomatch z⟩
  · rename_i i env' e
    exact ⟨G, B, env, _, env', ok, e, fun v H' s l _ => q v H' s l.1 l.2, fun _ _ z => nomatch z⟩
  · rename_i C d env' e
    exact ⟨G, B, env, _, env', ok, e, fun v H' s l => l.elim, fun C' d' z => by cases z; exact q⟩
  · exact q.elim
theorem op2_rd {r : R2} {gg : D → D → Option D} {ta tb : Bool} (hs : Op2 K r tn gg) (h : DEr K g W tn (fOp2 gg fa fb) σ H Q) : tOp r (DEr K g W ta fa) (DEr K g W tb fb) σ H Q := by
  obtain ⟨G, B, env, r0, env', ok, e, kv, kx⟩ := h.out
  refine bind1_use ok e (fun C d e1 _ eo a H' s ha => ?_) (fun z => nomatch z) (fun ra e1 x H1 _ _ ek s1 l1 _ => ?_)
  · cases eo; exact kx C d rfl a H' s ha
  · refine bind1_use s1.ok ek (fun C d e2 _ eo a H' s ha => ?_) (fun z => nomatch z) (fun rb e2 y H2 _ _ ek2 s2 l2 _ => ?_)
    · cases eo; exact kx C d rfl a H' (s1.trans s) ha
    · revert ek2
      cases eda : res ra e2 with
      | none => intro ek2; cases ek2
      | some da =>
        cases edb : res rb e2 with
        | none => intro ek2; cases ek2
        | some db =>
          cases egg : gg da db with
          | none => intro ek2; simp [egg] at ek2
          | some d =>
            intro ek2
            simp only [egg] at ek2
            cases ek2
            have s12 := s1.trans s2
            refine hs H2 _ _ x y da db d Q ((l1.stp s2).res s2.ok eda) (l2.res s2.ok edb) (fun a ha => s2.ok.fresh ha) egg fun v H' se rv t => ?_
            exact kv v H' (s12.grow se) rv fun _ _ q => (t q).back s12.dom
theorem op1_rd {r : V → Hp → VK → Prop} {gg : D → Option D} {ta : Bool} (hs : Op1 K r tn gg) (h : DEr K g W tn (fOp1 gg fa) σ H Q) : tUn r (DEr K g W ta fa) σ H Q := by
  obtain ⟨G, B, env, r0, env', ok, e, kv, kx⟩ := h.out
  refine bind1_use ok e (fun C d e1 _ eo a H' s ha => ?_) (fun z => nomatch z) (fun ra e1 x H1 _ _ ek s1 l1 _ => ?_)
  · cases eo; exact kx C d rfl a H' s ha
  · revert ek
    cases eda : res ra e1 with
    | none => intro ek; cases ek
    | some da =>
      cases egg : gg da with
      | none => intro ek; simp [egg] at ek
      | some d =>
        intro ek
        simp only [egg] at ek
        cases ek
        refine hs H1 _ _ x da d Q (l1.res s1.ok eda) (fun a ha => s1.ok.fresh ha) egg fun v H' se rv t => ?_
        exact kv v H' (s1.grow se) rv fun _ _ q => (t q).back s1.dom
end
section
variable {X : Cx} {g : Cfg} {W : WX} {tn ta tb tc : Bool} {a b c e : Expr} {fa fb fc f : EF} {pos : Pos} {gg : D → D → Option D} {g1 : D → Option D} {r : R2}
theorem de_bin {op : Operator} (hr : OpR X (binaryOp op) r) (hs : Op2 X.K r tn gg) (ha : DE X g W ta a fa) (hb : DE X g W tb b fb) : DE X g W tn (.BinOp a op b pos) (fOp2 gg fa fb) := (pe_op hr ha hb).imp fun _ _ _ => op2_rd hs
theorem de_cmp {op : CmpOp} (hr : OpR X (compareOp op) r) (hs : Op2 X.K r tn gg) (ha : DE X g W ta a fa) (hb : DE X g W tb b fb) (hm : behindInMarks op b = false) : DE X g W tn (.Compare a [op] [b] pos) (fOp2 gg fa fb) := (pe_cmpR hr ha hb hm).imp fun _ _ _ => op2_rd hs
theorem de_ix (hr : IxR X r) (hs : Op2 X.K r tn gg) (ha : DE X g W ta a fa) (hb : DE X g W tb b fb) (hp : PlainIx b) : DE X g W tn (.Subscript a b pos) (fOp2 gg fa fb) := (pe_ix hr ha hb hp).imp fun _ _ _ => op2_rd hs
theorem de_un {op : UnaryOp} {r : V → Hp → VK → Prop} (hr : UnR X (unaryOp op) r) (hs : Op1 X.K r tn g1) (ha : DE X g W ta a fa) : DE X g W tn (.UnaryOp op a pos) (fOp1 g1 fa) := (pe_un hr ha).imp fun _ _ _ => op1_rd hs
end
end GR
/-! GD -/
set_option linter.all false
set_option maxRecDepth 100000
/-! Argument lists, displays, what a def promises, calls. -/
namespace GR
open PySem L2
variable [TabT]
/-! ### argument lists -/
inductive RA where
  | vals (rs : List R1) | exc (C : Addr) (d : D)
abbrev AF := Env → Option (RA × Env)
def DAr (K : PySem.W.Frag) (g : Cfg) (W : WX) (f : AF) : TA := fun σ H Q => ∃ G B env, EnvOk K g G B σ H env ∧
  match f env with
  | some (.vals rs, env') => ∀ vs H', Stp K g G B σ H env H' env' → Paired (Late K g G σ H' env') vs rs → Q vs H'
  | some (.exc C d, env') => ∀ a H', Stp K g G B σ H env H' env' → ExcAt K H' (Zr G g env' σ) a d → W (.ref C) (some a) σ H'
  | none => False
def DA (X : Cx) (g : Cfg) (W : WX) (es : List Expr) (f : AF) : Prop := PA X es (DAr X.K g W f)
def fANil : AF := fun env => some (.vals [], env)
def fACons (fe : EF) (fr : AF) : AF := fun env =>
  match fe env with
  | some (.exc C d, e) => some (.exc C d, e)
  | some (r, e) => match fr e with
    | some (.vals rs, e2) => some (.vals (r :: rs), e2)
    | some (.exc C d, e2) => some (.exc C d, e2)
    | none => none
  | none => none
section
variable {K : PySem.W.Frag} {g : Cfg} {G : Gnd} {B B' : Nat → Reg} {H H' H1 H2 : Hp} {σ : St} {env env' env1 env2 : Env} {p : Addr} {d : D} {v : V} {vs : List V} {ds : List D} {rs : List R1} {r : R1} {R L : Reg} {W : WX}
theorem lates_stp (s : Stp K g G B σ H env H' env') : ∀ {vs : List V} {rs : List R1}, Paired (Late K g G σ H env) vs rs → Paired (Late K g G σ H' env') vs rs
  | _, _, .nil => .nil
  | _, _, .cons h r => .cons (h.stp s) (lates_stp s r)
theorem DAr.out {f : AF} {Q : List V → Hp → Prop} (h : DAr K g W f σ H Q) : ∃ G B env r env', EnvOk K g G B σ H env ∧ f env = some (r, env') ∧
    (∀ rs, r = .vals rs → ∀ vs H', Stp K g G B σ H env H' env' → Paired (Late K g G σ H' env') vs rs → Q vs H') ∧
    ∀ C d, r = .exc C d → ∀ a H', Stp K g G B σ H env H' env' → ExcAt K H' (Zr G g env' σ) a d → W (.ref C) (some a) σ H' := by
  obtain ⟨G, B, env, ok, q⟩ := h
  split at q
  · rename_i rs env' e
    exact ⟨G, B, env, _, env', ok, e, fun rs' z => by cases z; exact q, fun _ _ z => nomatch z⟩
  · rename_i C d env' e
    exact ⟨G, B, env, _, env', ok, e, fun _ z => (nomatch z), fun _ _ z => by cases z; exact q⟩
  · exact q.elim
theorem DAr.intro {f : AF} {Q : List V → Hp → Prop} (ok : EnvOk K g G B σ H env) {r : RA} (e : f env = some (r, env'))
    (k : ∀ rs, r = .vals rs → ∀ vs H', Stp K g G B σ H env H' env' → Paired (Late K g G σ H' env') vs rs → Q vs H')
    (x : ∀ C d, r = .exc C d → ∀ a H', Stp K g G B σ H env H' env' → ExcAt K H' (Zr G g env' σ) a d → W (.ref C) (some a) σ H') : DAr K g W f σ H Q := by
  refine ⟨G, B, env, ok, ?_⟩
  rw [e]
  cases r with
  | vals rs => exact k rs rfl
  | exc C d => exact x C d rfl
end
section
variable {X : Cx} {g : Cfg} {W : WX} {tn : Bool} {e : Expr} {es : List Expr} {fe f : EF} {fr : AF} {pos : Pos}
theorem da_nil : DA X g W [] fANil := pa_nil.imp fun σ H Q ⟨G, B, env, ok, q⟩ => q [] H (Stp.refl ok) .nil
theorem da_cons (he : DE X g W tn e fe) (hr : DA X g W es fr) (hs : starEach (e :: es) X.env = (false, eval e X.env) :: starEach es X.env := by rfl) : DA X g W (e :: es) (fACons fe fr) := (pa_cons he hr hs).imp fun σ H Q h => by
  obtain ⟨G, B, env, r0, env', ok, eo, kv, kx⟩ := h.out
  unfold fACons at eo
  cases e1 : fe env with
  | none => rw [e1] at eo; cases eo
  | some re =>
    obtain ⟨r, e1'⟩ := re
    rw [e1] at eo
    have tl : (∀ C d, r ≠ .exc C d) → (match fr e1' with
        | some (.vals rs, e2) => some (RA.vals (r :: rs), e2)
        | some (.exc C d, e2) => some (.exc C d, e2)
        | none => none) = some (r0, env') → ∀ v H1, Stp X.K g G B σ H env H1 e1' → Late X.K g G σ H1 e1' v r → DAr X.K g W fr σ H1 (fun xs H2 => Q (v :: xs) H2) := fun _ eo v H1 s l => by
      cases e2 : fr e1' with
      | none => rw [e2] at eo; cases eo
      | some re2 =>
        obtain ⟨r2, e2'⟩ := re2
        rw [e2] at eo
        refine DAr.intro s.ok e2 (fun rs er vs H2 s2 ls => ?_) (fun C d er a H2 s2 ha => ?_)
        · subst er; cases eo
          exact kv _ rfl (v :: vs) H2 (s.trans s2) (.cons (l.stp s2) ls)
        · subst er; cases eo
          exact kx C d rfl a H2 (s.trans s2) ha
    refine DEr.intro ok e1 (fun v H1 s l _ => ?_) (fun C d er a H1 s ha => ?_)
    · cases r with
      | val d => exact tl (fun _ _ z => nomatch z) eo v H1 s l
      | slot i => exact tl (fun _ _ z => nomatch z) eo v H1 s l
      | exc C d => exact l.elim
    · subst er; cases eo
      exact kx C d rfl a H1 s ha
end
/-! ### things of ours given away -/
def mv (g : Cfg) : R1 → Env → Option (D × Env)
  | .val d, env => some (d, env)
  | .slot i, env => if g.io.contains i then none else match env[i]?.join with
    | some d => some (d, env.set i none)
    | none => none
  | .exc _ _, _ => none
def mvs (g : Cfg) : List R1 → Env → Option (List D × Env)
  | [], env => some ([], env)
  | r :: rs, env => match mv g r env with
    | some (d, e1) => match mvs g rs e1 with
      | some (ds, e2) => some (d :: ds, e2)
      | none => none
    | none => none
/-- read for now -/
def ress : List R1 → Env → Option (List D)
  | [], _ => some []
  | r :: rs, env => match res r env with
    | some d => match ress rs env with
      | some ds => some (d :: ds)
      | none => none
    | none => none
section
variable {K : PySem.W.Frag} {g : Cfg} {G : Gnd} {B B' : Nat → Reg} {H H' H1 H2 : Hp} {σ : St} {env env' env1 env2 : Env} {p : Addr} {d : D} {v : V} {vs : List V} {ds : List D} {rs : List R1} {r : R1} {R L : Reg} {W : WX}
theorem mv_ok (ok : EnvOk K g G B σ H env) (l : Late K g G σ H env v r) (e : mv g r env = some (d, env')) : Stp K g G B σ H env H env' ∧ Rep K H (Zr G g env' σ) v d ∧ (∀ i, r = .slot i → NewV G.H0 H v) := by
  cases r with
  | val d' => cases e; exact ⟨Stp.refl ok, l, fun _ z => nomatch z⟩
  | exc C d => exact l.elim
  | slot i =>
    obtain ⟨h1, h2⟩ := l
    unfold mv at e
    by_cases hc : g.io.contains i = true
    · simp only [hc, if_true] at e; cases e
    · simp only [hc] at e
      have hio : i ∉ g.io := fun q => hc (by simpa using q)
      cases q : env[i]?.join with
      | none => simp [q] at e
      | some d' =>
        simp only [q] at e
        obtain ⟨ed, ee⟩ : d' = d ∧ env.set i none = env' := by
          simp only [Bool.false_eq_true, if_false] at e
          injection e with e
          injection e with e1 e2
          exact ⟨e1, e2⟩
        subst ed; subst ee
        obtain ⟨p, hp, ho, _, hn⟩ := ok.own i d' (join_of q) h2
        rw [h1] at hp; cases hp
        have lv : ∀ a, Live g (env.set i none) σ a → Live g env σ a := fun a ⟨j, d, h1, h2, h3⟩ => ⟨j, d, h1, (set_none_get h2).1, h3⟩
        have s : Stp K g G B σ H env H (env.set i none) := ⟨ok.drop i hio, Fr.refl, lv, fun _ h => h⟩
        have hl : ¬ Live g (env.set i none) σ p := by
          rintro ⟨j, dj, hj1, hj2, hj3⟩
          obtain ⟨g1, g2⟩ := set_none_get hj2
          exact g2 (ok.apart j i dj d' p hj1 h2 g1 (join_of q) hj3 h1)
        exact ⟨s, ho.rep ⟨.inr (hn hio), hl⟩ (fun a x => ⟨s.zr a x.1, fun z => x.1.2 (by subst z; exact ⟨i, d', h2, join_of q, h1⟩)⟩), fun _ _ p' ep => by cases ep; exact ⟨hn hio, ho.notFrz⟩⟩
theorem mvs_ok : ∀ {rs : List R1} {vs : List V} {ds : List D} {env env' : Env}, EnvOk K g G B σ H env → Paired (Late K g G σ H env) vs rs → mvs g rs env = some (ds, env') → Stp K g G B σ H env H env' ∧ Reps K H (Zr G g env' σ) vs ds
  | [], _, _, _, _, ok, .nil, e => by cases e; exact ⟨Stp.refl ok, .nil⟩
  | r :: rs, _, ds, env, env', ok, .cons l ls, e => by
    unfold mvs at e
    cases e1 : mv g r env with
    | none => simp [e1] at e
    | some de =>
      obtain ⟨d, env1⟩ := de
      simp only [e1] at e
      cases e2 : mvs g rs env1 with
      | none => simp [e2] at e
      | some de2 =>
        obtain ⟨ds2, env2⟩ := de2
        simp only [e2] at e
        cases e
        obtain ⟨s1, r1, _⟩ := mv_ok ok l e1
        obtain ⟨s2, r2⟩ := mvs_ok s1.ok (lates_stp s1 ls) e2
        exact ⟨s1.trans s2, .cons (s2.rep r1) r2⟩
theorem ress_ok (ok : EnvOk K g G B σ H env) : ∀ {rs : List R1} {vs : List V} {ds : List D}, Paired (Late K g G σ H env) vs rs → ress rs env = some ds → Paired (RepB K H (Zr G g env σ) (Live g env σ)) vs ds
  | [], _, _, .nil, e => by cases e; exact .nil
  | r :: rs, _, ds, .cons l ls, e => by
    unfold ress at e
    cases e1 : res r env with
    | none => simp [e1] at e
    | some d =>
      simp only [e1] at e
      cases e2 : ress rs env with
      | none => simp [e2] at e
      | some ds2 =>
        simp only [e2] at e
        cases e
        exact .cons (l.res ok e1) (ress_ok ok ls e2)
end
/-! ### displays, calls of built-ins -/
/-- the items are given away -/
def fNew (g : Cfg) (gg : List D → Option D) (fa : AF) : EF := fun env => match fa env with
  | some (.exc C d, e) => some (.exc C d, e)
  | some (.vals rs, e) => match mvs g rs e with
    | some (ds, e2) => match gg ds with
      | some d => some (.val d, e2)
      | none => none
    | none => none
  | none => none
/-- the items are read -/
def fApp (gg : List D → Option D) (fa : AF) : EF := fun env => match fa env with
  | some (.exc C d, e) => some (.exc C d, e)
  | some (.vals rs, e) => match ress rs e with
    | some ds => match gg ds with
      | some d => some (.val d, e)
      | none => none
    | none => none
  | none => none
def OpN (K : PySem.W.Frag) (r : List V → Hp → VK → Prop) (tn : Bool) (gg : List D → Option D) : Prop :=
  ∀ (H : Hp) (R L : Reg) (xs : List V) (ds : List D) (d : D) (Q : VK), Paired (RepB K H R L) xs ds → (∀ a, H a = none → R a) → gg ds = some d →
    (∀ v H', (∀ a o, H a = some o → H' a = some o) → Rep K H' R v d → (tn = true → NewV H H' v) → Q v H') → r xs H Q
def OpM (K : PySem.W.Frag) (r : List V → Hp → VK → Prop) (tn : Bool) (gg : List D → Option D) : Prop :=
  ∀ (H : Hp) (R : Reg) (xs : List V) (ds : List D) (d : D) (Q : VK), Reps K H R xs ds → (∀ a, H a = none → R a) → gg ds = some d →
    (∀ v H', (∀ a o, H a = some o → H' a = some o) → Rep K H' R v d → (tn = true → NewV H H' v) → Q v H') → r xs H Q
def gTupD (ds : List D) : Option D := if ds.length ≤ 16777216 then some (.tup ds) else none
def gLstD (ds : List D) : Option D := if ds.length ≤ 16777216 then some (.lst ds) else none
section
variable {K : PySem.W.Frag} {g : Cfg} {W : WX} {tn : Bool} {σ : St} {H : Hp} {Q : VK}
theorem new_rd {fa : AF} {r : List V → Hp → VK → Prop} {gg : List D → Option D} (hs : OpM K r tn gg) (h : DEr K g W tn (fNew g gg fa) σ H Q) : DAr K g W fa σ H (fun xs H1 => r xs H1 Q) := by
  obtain ⟨G, B, env, r0, env', ok, e, kv, kx⟩ := h.out
  unfold fNew at e
  cases e1 : fa env with
  | none => rw [e1] at e; cases e
  | some re =>
    obtain ⟨r1, e1'⟩ := re
    rw [e1] at e
    refine DAr.intro ok e1 (fun rs er vs H1 s ls => ?_) (fun C d er a H1 s ha => ?_)
    · subst er
      simp only at e
      cases e2 : mvs g rs e1' with
      | none => simp [e2] at e
      | some de =>
        obtain ⟨ds, e2'⟩ := de
        simp only [e2] at e
        cases e3 : gg ds with
        | none => simp [e3] at e
        | some d =>
          simp only [e3] at e
          cases e
          obtain ⟨s2, r2⟩ := mvs_ok s.ok ls e2
          have s12 := s.trans s2
          refine hs H1 _ vs ds d Q r2 (fun a ha => s12.ok.fresh ha) e3 fun v H' se rv t => ?_
          exact kv v H' (s12.grow se) rv fun _ _ q => (t q).back s.dom
    · subst er; cases e
      exact kx C d rfl a H1 s ha
theorem app_rd {fa : AF} {r : List V → Hp → VK → Prop} {gg : List D → Option D} (hs : OpN K r tn gg) (h : DEr K g W tn (fApp gg fa) σ H Q) : DAr K g W fa σ H (fun xs H1 => r xs H1 Q) := by
  obtain ⟨G, B, env, r0, env', ok, e, kv, kx⟩ := h.out
  unfold fApp at e
  cases e1 : fa env with
  | none => rw [e1] at e; cases e
  | some re =>
    obtain ⟨r1, e1'⟩ := re
    rw [e1] at e
    refine DAr.intro ok e1 (fun rs er vs H1 s ls => ?_) (fun C d er a H1 s ha => ?_)
    · subst er
      simp only at e
      cases e2 : ress rs e1' with
      | none => simp [e2] at e
      | some ds =>
        simp only [e2] at e
        cases e3 : gg ds with
        | none => simp [e3] at e
        | some d =>
          simp only [e3] at e
          cases e
          refine hs H1 _ _ vs ds d Q (ress_ok s.ok ls e2) (fun a ha => s.ok.fresh ha) e3 fun v H' se rv t => ?_
          exact kv v H' (s.grow se) rv fun _ _ q => (t q).back s.dom
    · subst er; cases e
      exact kx C d rfl a H1 s ha
theorem opM_tup : OpM K (fun xs H1 Q => xs.length ≤ sizeLine ∧ ∀ p, H1 p = none → Q (.ref p) (upd H1 p (.tup xs))) true gTupD := fun H R xs ds d Q r hf e k => by
  unfold gTupD at e
  split at e
  · rename_i hl
    cases e
    refine ⟨by rw [r.len, sizeLine_eq]; exact hl, fun p hp => k _ _ (upd_same_of hp) (Rep.newTup hp r) fun _ => NewV.upd hp fun _ _ z => nomatch z⟩
  · cases e
theorem opM_lst : OpM K (fun xs H1 Q => xs.length ≤ sizeLine ∧ ∀ p, H1 p = none → Q (.ref p) (upd H1 p (.lst xs))) true gLstD := fun H R xs ds d Q r hf e k => by
  unfold gLstD at e
  split at e
  · rename_i hl
    cases e
    refine ⟨by rw [r.len, sizeLine_eq]; exact hl, fun p hp => k _ _ (upd_same_of hp) (Rep.newLst hp (hf p hp) r) fun _ => NewV.upd hp fun _ _ z => nomatch z⟩
  · cases e
end
section
variable {X : Cx} {g : Cfg} {W : WX} {tn : Bool} {e : Expr} {es : List Expr} {fa : AF} {pos p : Pos} {gg : List D → Option D}
theorem de_tup {x1} (h : DA X g W es fa) : DE X g W true (.Tuple es x1 pos) (fNew g gTupD fa) := (pe_tup h).imp fun _ _ _ => new_rd opM_tup
theorem de_lst (h : DA X g W es fa) : DE X g W true (.List es pos) (fNew g gLstD fa) := (pe_lst h).imp fun _ _ _ => new_rd opM_lst
/-- {} -/
theorem de_dnew : DE X g W true (.Dict [] [] pos) (fC (.dK [])) := (pe_dnewK).imp fun σ H Q ⟨G, B, env, ok, q⟩ => fun p hp => q (.ref p) _ ((Stp.refl ok).grow (upd_same_of hp)) (Rep.newDK hp (ok.fresh hp) rfl .nil) fun _ => NewV.upd hp fun _ _ z => nomatch z
theorem de_callB {x : Str} {id : String} {r : List V → Hp → VK → Prop} (hc : CallR X (.builtin id) r) (hs : OpN X.K r tn gg) (hg : Gl X x) (hm : X.mg x = none) (hv : bootBuiltins x = some (.builtin id)) (ha : DA X g W (e :: es) fa)
    (hn : x ≠ "__name__" := by decide) (hd : (x == ("__debug__" : Str)) = false := by decide) (he : starEach (e :: es) X.env = (false, eval e X.env) :: starEach es X.env := by rfl) (hpl : (backTo pos (starEach es X.env)).any (·.1) = false := by rfl) :
    DE X g W tn (.Call (.Name x p) (e :: es) [] pos) (fApp gg fa) := (pe_callB hc hg hm hv ha hn hd he hpl).imp fun _ _ _ => app_rd hs
theorem de_callTy {x : Str} {T : String} {r : List V → Hp → VK → Prop} (hc : CallR X (.type T) r) (hs : OpN X.K r tn gg) (hg : Gl X x) (hm : X.mg x = none) (hv : bootBuiltins x = some (.type T)) (ha : DA X g W (e :: es) fa)
    (hn : x ≠ "__name__" := by decide) (hd : (x == ("__debug__" : Str)) = false := by decide) (he : starEach (e :: es) X.env = (false, eval e X.env) :: starEach es X.env := by rfl) (hpl : (backTo pos (starEach es X.env)).any (·.1) = false := by rfl) :
    DE X g W tn (.Call (.Name x p) (e :: es) [] pos) (fApp gg fa) := (pe_callTy hc hg hm hv ha hn hd he hpl).imp fun _ _ _ => app_rd hs
end
end GR
/-! GE -/
set_option linter.all false
set_option maxRecDepth 100000
/-! Statements. -/
namespace GR
open PySem L2
variable [TabT]
inductive Fl where
  | nx | ret (d : D) | brk | cnt | exc (C : Addr) (d : D)
abbrev SF := Env → Option (Fl × Env)
def Top : Nat → Reg := fun _ _ => True
def SEnd (K : PySem.W.Frag) (g : Cfg) (W : WX) (tn : Bool) (G : Gnd) (Dn : Ends) (env' : Env) : Fl → Prop
  | .nx => ∀ σ' H', EnvOk K g G Top σ' H' env' → Dn.nx σ' H'
  | .brk => ∀ σ' H', EnvOk K g G Top σ' H' env' → Dn.bk σ' H'
  | .cnt => ∀ σ' H', EnvOk K g G Top σ' H' env' → Dn.ct σ' H'
  | .ret d => ∀ v σ' H', EnvOk K g G Top σ' H' env' → Rep K H' (Zr G g env' σ') v d → (tn = true → NewV G.H0 H' v) → Dn.rt v H'
  | .exc C d => ∀ a σ' H', EnvOk K g G Top σ' H' env' → ExcAt K H' (Zr G g env' σ') a d → W (.ref C) (some a) σ' H'
def DSr (K : PySem.W.Frag) (g : Cfg) (W : WX) (tn : Bool) (f : SF) : TS := fun Dn σ H => ∃ G env fl env', EnvOk K g G Top σ H env ∧ f env = some (fl, env') ∧ SEnd K g W tn G Dn env' fl
def DS (X : Cx) (g : Cfg) (W : WX) (tn : Bool) (st : Stmt) (f : SF) : Prop := PS X st (DSr X.K g W tn f)
def DSs (X : Cx) (g : Cfg) (W : WX) (tn : Bool) (sts : List Stmt) (f : SF) : Prop := PSs X sts (DSr X.K g W tn f)
section
variable {K : PySem.W.Frag} {g : Cfg} {G : Gnd} {B B' : Nat → Reg} {H H' H1 H2 : Hp} {σ : St} {env env' env1 env2 : Env} {p : Addr} {d : D} {v : V} {vs : List V} {ds : List D} {rs : List R1} {r : R1} {R L : Reg} {W : WX} {tn : Bool}
theorem EnvOk.top (ok : EnvOk K g G B σ H env) : EnvOk K g G Top σ H env := ok.monoB fun _ _ _ => trivial
/-- the start of an expression within a statement: all that is held is there -/
theorem EnvOk.here (ok : EnvOk K g G Top σ H env) : EnvOk K g G (fun _ a => H a ≠ none) σ H env := ok.allocB.monoB fun _ _ x => x.2
/-! ### a slot is set -/
theorem get_set_of {env : Env} {i j : Nat} {o : Option D} {d : D} (h : (env.set i o)[j]? = some (some d)) : (j = i ∧ o = some d) ∨ (j ≠ i ∧ env[j]? = some (some d)) := by
  rw [List.getElem?_set] at h
  split at h
  · rename_i e
    split at h
    · injection h with h; exact .inl ⟨e.symm, h⟩
    · cases h
  · rename_i n; exact .inr ⟨fun q => n q.symm, h⟩
theorem set_get_ne {α : Type} {l : List α} {i j : Nat} {x : α} (h : j ≠ i) : (l.set i x)[j]? = l[j]? := by
  rw [List.getElem?_set, if_neg (fun q => h q.symm)]
theorem live_set (hi : i ∉ g.own) {o : Option D} {v : V} (a : Addr) : Live g (env.set i o) (σ.set i (some v)) a ↔ Live g env σ a := by
  constructor
  · rintro ⟨j, d, h1, h2, h3⟩
    have ne : j ≠ i := fun q => hi (by rw [← q]; exact h1)
    rw [set_get_ne ne] at h2 h3
    exact ⟨j, d, h1, h2, h3⟩
  · rintro ⟨j, d, h1, h2, h3⟩
    have ne : j ≠ i := fun q => hi (by rw [← q]; exact h1)
    exact ⟨j, d, h1, by rw [set_get_ne ne]; exact h2, by rw [set_get_ne ne]; exact h3⟩
/-- no exception at hand stands at the slot -/
def exFree (g : Cfg) (i : Nat) : Bool := g.ex.all fun x => x.1 != i
theorem ex_set {i : Nat} {o : Option V} (h : ∀ x ∈ g.ex, σ[x.1]? = some (some (.ref x.2))) (hx : exFree g i = true) : ∀ x ∈ g.ex, (σ.set i o)[x.1]? = some (some (.ref x.2)) := fun x m => by
  have ne : x.1 ≠ i := by
    have := List.all_eq_true.mp hx x m
    simpa using this
  rw [set_get_ne ne]
  exact h x m
theorem EnvOk.lt (ok : EnvOk K g G B σ H env) {i : Nat} {d : D} (h : env[i]? = some (some d)) : i < σ.length := by
  rw [← ok.len]; exact (List.getElem?_eq_some_iff.mp h).1
theorem EnvOk.setR (ok : EnvOk K g G B σ H env) {i : Nat} (hi : i ∉ g.own) (hx : exFree g i = true) (r : Rep K H (fun a => Zr G g env σ a ∧ B i a) v d) : EnvOk K g G B (σ.set i (some v)) H (env.set i (some d)) := by
  have zr : ∀ a, Zr G g env σ a → Zr G g (env.set i (some d)) (σ.set i (some v)) a := fun a ⟨h, n⟩ => ⟨h, fun q => n ((live_set hi a).mp q)⟩
  exact {
    len := by rw [List.length_set, List.length_set]; exact ok.len
    val := fun j d' e n => by
      rcases get_set_of e with ⟨rfl, e'⟩ | ⟨ne, e'⟩
      · cases e'
        have hl : j < σ.length := by
          have := (List.getElem?_eq_some_iff.mp e).1
          rw [List.length_set] at this
          rw [← ok.len]; exact this
        exact ⟨v, by rw [List.getElem?_set, if_pos rfl, if_pos hl], r.mono fun a x => ⟨zr a x.1, x.2⟩⟩
      · obtain ⟨u, h1, h2⟩ := ok.val j d' e' n
        exact ⟨u, by rw [set_get_ne ne]; exact h1, h2.mono fun a x => ⟨zr a x.1, x.2⟩⟩
    own := fun j d' e n => by
      rcases get_set_of e with ⟨rfl, e'⟩ | ⟨ne, e'⟩
      · exact absurd n hi
      · obtain ⟨q, h1, h2, h3⟩ := ok.own j d' e' n
        exact ⟨q, by rw [set_get_ne ne]; exact h1, h2.mono fun a x => ⟨zr a x.1, x.2⟩, h3⟩
    io := fun j p h => by
      obtain ⟨h1, h2, h3, d', h4⟩ := ok.io j p h
      have ne : j ≠ i := fun q => hi (by rw [← q]; exact h2)
      exact ⟨h1, h2, by rw [set_get_ne ne]; exact h3, d', by rw [set_get_ne ne]; exact h4⟩
    ioall := ok.ioall
    apart := fun a b d1 d2 p ha hb h1 h2 h3 h4 => by
      have na : a ≠ i := fun q => hi (by rw [← q]; exact ha)
      have nb : b ≠ i := fun q => hi (by rw [← q]; exact hb)
      rw [set_get_ne na] at h1 h3
      rw [set_get_ne nb] at h2 h4
      exact ok.apart a b d1 d2 p ha hb h1 h2 h3 h4
    base := ok.base
    tab := ok.tab
    dom := ok.dom
    ap := ok.ap
    hold := fun h q => h.mono _ _ _ (ok.hold h q) fun a x => ⟨zr a x.1, x.2⟩
    ex := ex_set ok.ex hx }
theorem EnvOk.setB (ok : EnvOk K g G B σ H env) {i : Nat} (hB : ∀ a, B i a) (hi : i ∉ g.own) (hx : exFree g i = true) (r : Rep K H (Zr G g env σ) v d) : EnvOk K g G B (σ.set i (some v)) H (env.set i (some d)) := ok.setR hi hx (r.mono fun a x => ⟨x, hB a⟩)
theorem EnvOk.set (ok : EnvOk K g G Top σ H env) {i : Nat} (hi : i ∉ g.own) (hx : exFree g i = true) (r : Rep K H (Zr G g env σ) v d) : EnvOk K g G Top (σ.set i (some v)) H (env.set i (some d)) := ok.setB (fun _ => trivial) hi hx r
/-- a slot of ours gets a new thing: nothing that is held has it -/
theorem EnvOk.setOwnB (ok : EnvOk K g G B σ H env) {i : Nat} (hi : i ∈ g.own) (hio : i ∉ g.io) (hx : exFree g i = true) (hl : i < σ.length) (o : OwnAt K H (fun a => (Zr G g env σ a ∧ a ≠ p) ∧ B i a) p d) (hp : G.H0 p = none) (hB : ∀ i, ¬ B i p) (nl : ¬ Live g env σ p) :
    EnvOk K g G B (σ.set i (some (.ref p))) H (env.set i (some d)) := by
  have lv : ∀ a, Live g (env.set i (some d)) (σ.set i (some (.ref p))) a → Live g env σ a ∨ a = p := by
    rintro a ⟨j, d', h1, h2, h3⟩
    rcases get_set_of h2 with ⟨rfl, e'⟩ | ⟨ne, e'⟩
    · rw [List.getElem?_set, if_pos rfl, if_pos hl] at h3
      injection h3 with h3; injection h3 with h3; injection h3 with h3
      exact .inr h3.symm
    · rw [set_get_ne ne] at h3
      exact .inl ⟨j, d', h1, e', h3⟩
  have zr : ∀ a, Zr G g env σ a → a ≠ p → Zr G g (env.set i (some d)) (σ.set i (some (.ref p))) a := fun a ⟨h, n⟩ ne => ⟨h, fun q => (lv a q).elim n ne⟩
  have zb : ∀ k a, Zr G g env σ a ∧ B k a → Zr G g (env.set i (some d)) (σ.set i (some (.ref p))) a ∧ B k a := fun k a x => ⟨zr a x.1 (fun q => hB k (by rw [← q]; exact x.2)), x.2⟩
  exact {
    len := by rw [List.length_set, List.length_set]; exact ok.len
    val := fun j d' e n => by
      rcases get_set_of e with ⟨rfl, e'⟩ | ⟨ne, e'⟩
      · exact absurd hi n
      · obtain ⟨u, h1, h2⟩ := ok.val j d' e' n
        exact ⟨u, by rw [set_get_ne ne]; exact h1, h2.mono (zb _)⟩
    own := fun j d' e n => by
      rcases get_set_of e with ⟨rfl, e'⟩ | ⟨ne, e'⟩
      · cases e'
        exact ⟨p, by rw [List.getElem?_set, if_pos rfl, if_pos hl], o.mono fun a x => ⟨zr a x.1.1 x.1.2, x.2⟩, fun q => absurd q hio, fun _ => hp⟩
      · obtain ⟨q, h1, h2, h3⟩ := ok.own j d' e' n
        exact ⟨q, by rw [set_get_ne ne]; exact h1, h2.mono (zb _), h3⟩
    io := fun j q h => by
      obtain ⟨h1, h2, h3, d', h4⟩ := ok.io j q h
      have ne : j ≠ i := fun z => hio (by rw [← z]; exact h1)
      exact ⟨h1, h2, by rw [set_get_ne ne]; exact h3, d', by rw [set_get_ne ne]; exact h4⟩
    ioall := ok.ioall
    apart := fun a b d1 d2 q ha hb h1 h2 h3 h4 => by
      have key : ∀ {a : Nat} {d1 : D}, a ∈ g.own → a ≠ i → env[a]? = some (some d1) → σ[a]? = some (some (.ref p)) → False := fun {a d1} ha na h1 h3 => nl ⟨a, d1, ha, h1, h3⟩
      have atI : (σ.set i (some (.ref p)))[i]? = some (some (.ref p)) := by rw [List.getElem?_set, if_pos rfl, if_pos hl]
      rcases get_set_of h1 with ⟨ea, _⟩ | ⟨na, e1⟩ <;> rcases get_set_of h2 with ⟨eb, _⟩ | ⟨nb, e2⟩
      · rw [ea, eb]
      · subst ea
        rw [atI] at h3; cases h3
        rw [set_get_ne nb] at h4
        exact (key hb nb e2 h4).elim
      · subst eb
        rw [atI] at h4; cases h4
        rw [set_get_ne na] at h3
        exact (key ha na e1 h3).elim
      · rw [set_get_ne na] at h3
        rw [set_get_ne nb] at h4
        exact ok.apart a b d1 d2 q ha hb e1 e2 h3 h4
    base := ok.base
    tab := ok.tab
    dom := ok.dom
    ap := ok.ap
    hold := fun h q => h.mono _ _ _ (ok.hold h q) (zb _)
    ex := ex_set ok.ex hx }
theorem EnvOk.setOwn (ok : EnvOk K g G B σ H env) {i : Nat} (hi : i ∈ g.own) (hio : i ∉ g.io) (hx : exFree g i = true) (hl : i < σ.length) (o : OwnAt K H (fun a => Zr G g env σ a ∧ a ≠ p) p d) (hp : G.H0 p = none) (hB : ∀ i, ¬ B i p) (nl : ¬ Live g env σ p) :
    EnvOk K g G Top (σ.set i (some (.ref p))) H (env.set i (some d)) :=
  ((ok.monoB (B' := fun _ a => a ≠ p) fun i a h q => hB i (by rw [← q]; exact h)).setOwnB hi hio hx hl (o.mono fun a x => ⟨x, x.2⟩) hp (fun _ h => h rfl) nl).top
end
/-! ### the forms -/
def fSeq (f1 f2 : SF) : SF := fun env => match f1 env with
  | some (.nx, e) => f2 e
  | some (fl, e) => some (fl, e)
  | none => none
def fNext : SF := fun env => some (.nx, env)
def fBrk : SF := fun env => some (.brk, env)
def fCnt : SF := fun env => some (.cnt, env)
/-- let slots go -/
def wipeE (env : Env) : List Nat → Env
  | [] => env
  | i :: is => wipeE (env.set i none) is
def fExpr (fe : EF) : SF := fun env => match fe env with
  | some (.exc C d, e) => some (.exc C d, e)
  | some (_, e) => some (.nx, e)
  | none => none
def fRet (g : Cfg) (fe : EF) : SF := fun env => match fe env with
  | some (.exc C d, e) => some (.exc C d, e)
  | some (r, e) => match mv g r e with
    | some (d, e2) => some (.ret d, e2)
    | none => none
  | none => none
def fSet (g : Cfg) (i : Nat) (fe : EF) : SF := fun env => match fe env with
  | some (.exc C d, e) => some (.exc C d, e)
  | some (r, e) => match mv g r e with
    | some (d, e2) => some (.nx, e2.set i (some d))
    | none => none
  | none => none
def isBox : D → Bool
  | .lst _ | .dK _ => true
  | _ => false
/-- a slot of ours gets a new list or dict -/
def fSetOwn (g : Cfg) (i : Nat) (fe : EF) : SF := fun env => match fe env with
  | some (.exc C d, e) => some (.exc C d, e)
  | some (.val d, e) => if (isBox d && decide (i < e.length)) = true then some (.nx, e.set i (some d)) else none
  | _ => none
inductive RT where
  | b (x : Bool) | exc (C : Addr) (d : D)
abbrev TF := Env → Option (RT × Env)
def DTr (K : PySem.W.Frag) (g : Cfg) (W : WX) (f : TF) : TT := fun σ H Q => ∃ G B env r env', EnvOk K g G B σ H env ∧ f env = some (r, env') ∧
  match r with
  | .b x => ∀ H', Stp K g G B σ H env H' env' → Q x H'
  | .exc C d => ∀ a H', Stp K g G B σ H env H' env' → ExcAt K H' (Zr G g env' σ) a d → W (.ref C) (some a) σ H'
def DT (X : Cx) (g : Cfg) (W : WX) (e : Expr) (f : TF) : Prop := PT X e (DTr X.K g W f)
def fIf (fc : TF) (f1 f2 : SF) : SF := fun env => match fc env with
  | some (.b true, e) => f1 e
  | some (.b false, e) => f2 e
  | some (.exc C d, e) => some (.exc C d, e)
  | none => none
section
variable {X : Cx} {g : Cfg} {W : WX} {tn tn' : Bool} {e : Expr} {st : Stmt} {sts : List Stmt} {fe : EF} {f f1 f2 : SF} {fc : TF} {pos pos' : Pos}
theorem ds_drop (h : DS X g W tn st f) : DS X g W false st f := h.imp fun Dn σ H ⟨G, env, fl, env', ok, e, q⟩ => ⟨G, env, fl, env', ok, e, by
  cases fl with
  | ret d => exact fun v σ' H' o r t => q v σ' H' o r fun z => nomatch z
  | nx => exact q
  | brk => exact q
  | cnt => exact q
  | exc C d => exact q⟩
theorem dss_nil : DSs X g W tn [] fNext := pss_nil.imp fun Dn σ H ⟨G, env, fl, env', ok, e, q⟩ => by cases e; exact q σ H ok
theorem dss_cons (h1 : DS X g W tn st f1) (h2 : DSs X g W tn sts f2) : DSs X g W tn (st :: sts) (fSeq f1 f2) := (pss_cons h1 h2).imp fun Dn σ H ⟨G, env, fl, env', ok, e, q⟩ => by
  unfold fSeq at e
  cases e1 : f1 env with
  | none => rw [e1] at e; cases e
  | some re =>
    obtain ⟨fl1, env1⟩ := re
    rw [e1] at e
    refine ⟨G, env, fl1, env1, ok, e1, ?_⟩
    cases fl1 with
    | nx => exact fun σ' H' ok' => ⟨G, env1, fl, env', ok', e, q⟩
    | ret d => cases e; exact q
    | brk => cases e; exact q
    | cnt => cases e; exact q
    | exc C d => cases e; exact q
theorem dss_one (h1 : DS X g W tn st f1) : DSs X g W tn [st] f1 := pss_one h1
theorem ds_pass : DS X g W tn (.Pass pos) fNext := ps_pass.imp fun Dn σ H ⟨G, env, fl, env', ok, e, q⟩ => by cases e; exact q σ H ok
theorem ds_break : DS X g W tn (.Break pos) fBrk := ps_break.imp fun Dn σ H ⟨G, env, fl, env', ok, e, q⟩ => by cases e; exact q σ H ok
theorem ds_continue : DS X g W tn (.Continue pos) fCnt := ps_continue.imp fun Dn σ H ⟨G, env, fl, env', ok, e, q⟩ => by cases e; exact q σ H ok
theorem ds_if {c : Expr} {a b : List Stmt} (hc : DT X g W c fc) (ha : DSs X g W tn a f1) (hb : DSs X g W tn b f2) : DS X g W tn (.If c a b pos) (fIf fc f1 f2) := (ps_if hc ha hb).imp fun Dn σ H ⟨G, env, fl, env', ok, e, q⟩ => by
  unfold fIf at e
  cases e1 : fc env with
  | none => rw [e1] at e; cases e
  | some re =>
    obtain ⟨r, env1⟩ := re
    rw [e1] at e
    refine ⟨G, Top, env, r, env1, ok, e1, ?_⟩
    cases r with
    | b x =>
      intro H' s
      cases x with
      | true => rw [if_pos rfl]; exact ⟨G, env1, fl, env', s.ok, e, q⟩
      | false => rw [if_neg (fun z => nomatch z)]; exact ⟨G, env1, fl, env', s.ok, e, q⟩
    | exc C d => cases e; exact fun a H' s ha => q a σ H' s.ok ha
theorem ds_expr (he : DE X g W tn' e fe) (hs : swapsWith e none pos.line X.env = pure false := by rfl) : DS X g W tn (.Expr e pos) (fExpr fe) := (ps_expr he hs).imp fun Dn σ H ⟨G, env, fl, env', ok, ee, q⟩ => by
  unfold fExpr at ee
  cases e1 : fe env with
  | none => rw [e1] at ee; cases ee
  | some re =>
    obtain ⟨r, env1⟩ := re
    rw [e1] at ee
    refine DEr.intro ok e1 (fun v H' s l _ => ?_) (fun C d er a H' s ha => ?_)
    · cases r with
      | val d => cases ee; exact q σ H' s.ok
      | slot i => cases ee; exact q σ H' s.ok
      | exc C d => exact l.elim
    · subst er; cases ee; exact q a σ H' s.ok ha
theorem ds_ret (he : DE X g W tn e fe) : DS X g W tn (.Return (some e) pos) (fRet g fe) := (ps_ret he).imp fun Dn σ H ⟨G, env, fl, env', ok, ee, q⟩ => by
  unfold fRet at ee
  cases e1 : fe env with
  | none => rw [e1] at ee; cases ee
  | some re =>
    obtain ⟨r, env1⟩ := re
    rw [e1] at ee
    refine DEr.intro ok e1 (fun v H' s l t => ?_) (fun C d er a H' s ha => ?_)
    · have main : (∀ C d, r ≠ .exc C d) → (match mv g r env1 with
        | some (d, e2) => some (Fl.ret d, e2)
        | none => none) = some (fl, env') → Dn.rt v H' := fun _ ee => by
        cases e2 : mv g r env1 with
        | none => simp [e2] at ee
        | some de =>
          obtain ⟨d, env2⟩ := de
          simp only [e2] at ee
          cases ee
          obtain ⟨s2, r2, n2⟩ := mv_ok s.ok l e2
          refine q v σ H' s2.ok r2 fun ht => ?_
          cases r with
          | val d' => exact (t d' rfl ht).back ok.dom
          | slot i => exact n2 i rfl
          | exc C d' => exact l.elim
      cases r with
      | val d => exact main (fun _ _ z => nomatch z) ee
      | slot i => exact main (fun _ _ z => nomatch z) ee
      | exc C d => exact l.elim
    · subst er; cases ee; exact q a σ H' s.ok ha
theorem ds_retN : DS X g W tn (.Return none pos) (fun env => some (.ret .non, env)) := ps_retN.imp fun Dn σ H ⟨G, env, fl, env', ok, e, q⟩ => by
  cases e; exact q .non σ H ok .non fun _ => NewV.no fun _ z => nomatch z
theorem ds_set (i : Nat) {x : Str} (he : DE X g W tn' e fe) (hi : i ∉ g.own := by walk_at "gmem") (hxf : exFree g i = true := by rfl) (hN : X.N.Nodup) (hx : X.N[i]? = some x := by rfl) (hl : Loc X.env.scope x := by first | exact Or.inl rfl | exact Or.inr rfl)
    (hs : swapsWith e (some (.Name x pos')) pos.line X.env = pure false := by rfl) (hf : X.fn x = true ∨ X.env.scope.names.lookup x = some .local := by first | exact .inl rfl | exact .inr rfl | assumption) : DS X g W tn (.Assign [.Name x pos'] e pos) (fSet g i fe) := (ps_set hN hx hl he hs hf).imp fun Dn σ H ⟨G, env, fl, env', ok, ee, q⟩ => by
  unfold fSet at ee
  cases e1 : fe env with
  | none => rw [e1] at ee; cases ee
  | some re =>
    obtain ⟨r, env1⟩ := re
    rw [e1] at ee
    refine DEr.intro ok e1 (fun v H' s l t => ?_) (fun C d er a H' s ha => ?_)
    · have main : (∀ C d, r ≠ .exc C d) → (match mv g r env1 with
        | some (d, e2) => some (Fl.nx, e2.set i (some d))
        | none => none) = some (fl, env') → Dn.nx (σ.set i (some v)) H' := fun _ ee => by
        cases e2 : mv g r env1 with
        | none => simp [e2] at ee
        | some de =>
          obtain ⟨d, env2⟩ := de
          simp only [e2] at ee
          cases ee
          obtain ⟨s2, r2, _⟩ := mv_ok s.ok l e2
          exact q _ _ (s2.ok.set hi hxf r2)
      cases r with
      | val d => exact main (fun _ _ z => nomatch z) ee
      | slot i => exact main (fun _ _ z => nomatch z) ee
      | exc C d => exact l.elim
    · subst er; cases ee; exact q a σ H' s.ok ha
theorem Rep.box {K : PySem.W.Frag} {H H1 : Hp} {R : Reg} {v : V} {d : D} (r : Rep K H R v d) (n : NewV H1 H v) (h : isBox d = true) : ∃ p, v = .ref p ∧ R p ∧ OwnAt K H (fun a => R a ∧ a ≠ p) p d := by
  cases r with
  | lst q hh r => exact ⟨_, rfl, q, _, hh, r⟩
  | dK q hh e r =>
    rcases hh with hh | ⟨o, hh⟩
    · exact ⟨_, rfl, q, _, hh, e, r⟩
    · exact absurd hh ((n _ rfl).2 _ _)
  | _ => cases h
theorem ds_setOwn (i : Nat) {x : Str} (he : DE X g W true e fe) (hi : i ∈ g.own := by walk_at "gmem") (hio : i ∉ g.io := by walk_at "gmem") (hxf : exFree g i = true := by rfl) (hN : X.N.Nodup) (hx : X.N[i]? = some x := by rfl) (hl : Loc X.env.scope x := by first | exact Or.inl rfl | exact Or.inr rfl)
    (hs : swapsWith e (some (.Name x pos')) pos.line X.env = pure false := by rfl) (hf : X.fn x = true ∨ X.env.scope.names.lookup x = some .local := by first | exact .inl rfl | exact .inr rfl | assumption) :
    DS X g W tn (.Assign [.Name x pos'] e pos) (fSetOwn g i fe) := (ps_set hN hx hl he hs hf).imp fun Dn σ H ⟨G, env, fl, env', ok, ee, q⟩ => by
  unfold fSetOwn at ee
  cases e1 : fe env with
  | none => rw [e1] at ee; cases ee
  | some re =>
    obtain ⟨r, env1⟩ := re
    rw [e1] at ee
    refine DEr.intro ok.here e1 (fun v H' s l t => ?_) (fun C d er a H' s ha => ?_)
    · cases r with
      | val d =>
        simp only at ee
        by_cases hb : (isBox d && decide (i < env1.length)) = true
        · rw [if_pos hb] at ee
          cases ee
          have n := t d rfl rfl
          simp only [Bool.and_eq_true, decide_eq_true_eq] at hb
          obtain ⟨p, ev, hp, ho⟩ := Rep.box l n hb.1
          subst ev
          exact q _ _ (s.ok.setOwn hi hio hxf (by rw [← s.ok.len]; exact hb.2) ho (ok.dom p (n p rfl).1) (fun _ z => z (n p rfl).1) hp.2)
        · rw [if_neg hb] at ee; cases ee
      | slot i => cases ee
      | exc C d => exact l.elim
    · subst er; cases ee; exact q a σ H' s.ok.top ha
end
end GR
/-! G0 -/
set_option linter.all false
set_option maxRecDepth 100000
/-! Promises of defs where nothing is being shown: the list of running reprs is known to be empty. -/
namespace GR
open PySem L2 PyProof.Rows
/-- room, and no repr is running -/
structure RoomG (k : Nat) (A : Around) : Prop where
  room : Room k A
  gd : A.guards = some []
theorem RoomG.mono {j k : Nat} {A : Around} (r : RoomG k A) (h : j ≤ k) : RoomG j A := ⟨r.room.mono h, r.gd⟩
theorem RoomG.deeper {k : Nat} {A : Around} (r : RoomG (k + 1) A) (env : PySem.Env) : RoomG k (A.deeper env) := ⟨r.room.deeper env, r.gd⟩
theorem RoomG.in1 {k : Nat} {A : Around} (r : RoomG (k + 1) A) : RoomG k A.in1 := ⟨r.room.in1, r.gd⟩
theorem guards_make {A : Around} {C : Addr} {us : List Value} {kw : List (Str × Value)} (h : A.guards = some []) : (A.under (.builtin "type.__call__" ⟨.ref C :: us, kw⟩)).guards = some [] := by
  show pushGuards (Code.guards (.builtin "type.__call__" ⟨.ref C :: us, kw⟩)) A.guards = some []
  rw [h]
  have e : Code.guards (.builtin "type.__call__" ⟨.ref C :: us, kw⟩) = [] := by
    unfold Code.guards
    rw [if_neg]
    simp [Code.isGuard]
    decide
  rw [e]; rfl
theorem RoomG.make {k : Nat} {A : Around} (r : RoomG (k + 1) A) (C : Addr) (us : List Value) (kw : List (Str × Value)) : RoomG k (A.under (.builtin "type.__call__" ⟨.ref C :: us, kw⟩)) := ⟨r.room.make C us kw, guards_make r.gd⟩
structure FnG (P : Program) (w : World) (K : PySem.W.Frag) (mg : Str → Option Value) (base : Heap) (CX : CXT) (k : Nat) (f : Addr) (fd : FuncData) (ps : List Str) (sp : Sp) : Prop where
  len : ∀ vs H Q E, sp vs H Q E → vs.length = ps.length
  run : ∀ (A : Around) (outer : List PySem.Env) (s : Shared) (H : Hp) (args : Args) (us : List Value) (vs : List V) (Q : VK) (E : XK), RoomG k A → Env0 P w K mg base A outer s H → BindsTo s fd args (ps.zip us) → Vals vs us → sp vs H Q E →
    codeAny (model P w) A (.call (.ref f) args) (CR CX outer P w H s Q E) s
section
variable {P : Program} {w : World} {K : PySem.W.Frag} {mg : Str → Option Value} {base : Heap} {CX : CXT}
theorem FnG.mono {j k : Nat} {f : Addr} {fd : FuncData} {ps : List Str} {sp : Sp} (F : FnG P w K mg base CX j f fd ps sp) (h : j ≤ k) : FnG P w K mg base CX k f fd ps sp where
  len := F.len
  run A outer s H args us vs Q E hr := F.run A outer s H args us vs Q E (hr.mono h)
/-- a def by its body -/
theorem fnG_of {x qual : Str} {st : Stmt} {f : Addr} {fd : FuncData} {N ps : List Str} {k : Nat} {sp : Sp} (F : Fun K x qual st f fd) (S : FnScope N ps (defScope st)) (len : ∀ vs H Q E, sp vs H Q E → vs.length = ps.length)
    (hbody : ∀ (cdv : Value) (A : Around) (outer : List PySem.Env) (s : Shared) (H : Hp) (vs : List V) (Q : VK) (E : XK), fd.code = cdv → RoomG k (A.deeper (envOfC qual (defScope st) s.heap.objs.size f cdv)) → sp vs H Q E →
      ∃ t, PSs (cxOf CX P w K mg base N qual (defScope st) f cdv A outer s H E) (defBody st) t ∧ t { nx := fun _ H' => Q .non H', rt := Q } (L2.start N vs) H) : FnG P w K mg base CX (k + 1) f fd ps sp := by
  obtain ⟨oc, od, kV, doc, pm, an, cdv, ct, osl, rfl, lk, hcd⟩ := F.ex
  constructor
  · exact len
  intro A outer s H args us vs Q E hr e0 hb r hsp
  have inK : K.In s.heap := e0.mod.kin.keeps (fun b o e => (e0.bs b o e).1)
  have noL : s.heap.NoLimit := e0.mod.nolimit.keeps (fun b o e => (e0.bs b o e).1)
  have kinds : ∀ y ∈ ps.zip us, (defScope st).names.lookup y.1 = some .local ∨ ((defScope st).names.lookup y.1 = some .cell ∧ ((cellsFrom (s.heap.objs.size + 1) (defScope st).names []).lookup y.1).isSome = true) := by
    intro y hy
    cases S.par y.1 (List.of_mem_zip hy).1 with
    | inl q => exact .inl q
    | inr q => exact .inr ⟨q, PySem.W.cellsFrom_some _ _ _ (.inl q)⟩
  refine codeAny_call_function hr.room.depth (inK _ _ lk) rfl S.co S.gen rfl (PySem.W.codeRec_of inK hcd) (hb _ _ _ _ ?_)
  refine wpAny_newFunctionEnv_cells S.kind kinds fun env he s1 x1 => ?_
  subst he
  refine ⟨noL.keeps x1.toInCall.keep, codeAny_func ?_⟩
  obtain ⟨t, ht, hq⟩ := hbody cdv A outer s H vs Q E rfl (hr.deeper _) hsp
  have I := inv_start (CX := CX) (N := N) (qual := qual) (E := E) S hr.room.hd e0 (len _ _ _ _ hsp) r x1
  refine wpAny_mono (ht.run [] s1 (L2.start N vs) H _ I hq) ?_ (fun e s' hs => hs)
  intro fl s' hs
  cases fl with
  | ret u => obtain ⟨v, σ', H', J, rv, q⟩ := hs; exact ⟨v, H', J.os, J.bare, J.base, J.hok, rv, q⟩
  | next => obtain ⟨σ', H', J, q⟩ := hs; exact ⟨V.non, H', J.os, J.bare, J.base, J.hok, rfl, q⟩
  | brk => obtain ⟨_, _, _, q⟩ := hs; exact q.elim
  | cont => obtain ⟨_, _, _, q⟩ := hs; exact q.elim
end
section
variable {X : Cx} {CX : CXT} {k : Nat} {f C : Addr} {fd : FuncData} {ps : List Str} {sp : Sp} {E : L2.St → XK} {x m : Str} {p pos apos : Pos} {e o : Expr} {es : List Expr} {ta : TE} {t : TA}
theorem run_fnG {pins : List (Addr × Obj)} {σ : L2.St} {H : Hp} {s : Shared} {Q : VK} {us : List Value} {args : Args} {vs : List V} (F : FnG X.prog X.w X.K X.mg X.base CX k f fd ps sp) (hr : RoomG k X.A) (hb : BindsTo s fd args (ps.zip us)) (hx : PassesAt CX X σ (E σ))
    (I : Inv X pins σ H s) (r : Vals vs us) (h : sp vs H Q (E σ)) : codeAny (model X.prog X.w) X.A (.call (.ref f) args) (wants (EP X pins σ Q) X.xe) s := by
  refine codeAny_mono (F.run X.A X.stack s H args us vs Q (E σ) hr I.env0 hb r h) ?_
  intro r s' hq
  cases r with
  | error e => exact hx pins H s e s' I hq
  | ok fl =>
    cases fl with
    | ret u => exact I.after hq
    | next => exact hq.elim
    | brk => exact hq.elim
    | cont => exact hq.elim
theorem pe_callG (F : FnG X.prog X.w X.K X.mg X.base CX k f fd ps sp) (hr : RoomG k X.A) (hg : Gl X x) (hm : X.mg x = some (.ref f)) (hk : PySem.W.keepIn X.K (.ref f) = true) (hb : Binds X.K fd ps []) (hx : ∀ σ, PassesAt CX X σ (E σ))
    (ha : PA X (e :: es) t) (hdb : (x == ("__debug__" : Str)) = false := by decide) (he : starEach (e :: es) X.env = (false, eval e X.env) :: starEach es X.env := by rfl) (hpl : (backTo pos (starEach es X.env)).any (·.1) = false := by rfl) :
    PE X (.Call (.Name x p) (e :: es) [] pos) (tCallS sp E t) where
  run pins s σ H Q I h := by
    refine wpAny_Call_Name_kw (ld_glob I hg hm ?_ hdb)
    refine PySem.W.callWith_K (h₀ := X.base) I.ok.mod.kin hk (thn (ha.run pos pins s σ H _ I h) ?_) he hpl
    intro us s1 h1
    obtain ⟨vs, H1, I1, r, q⟩ := h1
    refine ⟨I1.kIn, ?_⟩
    have hl : us.length = ps.length := r.length.symm.trans (F.len _ _ _ _ q)
    have b := hb s1 us I1.kIn (by rw [List.append_nil]; exact hl)
    rw [List.append_nil] at b
    exact wpAny_call (run_fnG F hr b (hx σ) I1 r q)
end
end GR
/-! GF -/
set_option linter.all false
set_option maxRecDepth 100000
/-! What a def promises, by a function on data; its calls. -/
namespace GR
open PySem L2
variable [TabT]
inductive RO where
  | val (d : D) | exc (C : Addr) (d : D)
/-- the arguments' data in; what comes back, and the data of the parameters io behind it -/
abbrev GF := List D → Option (RO × List D)
structure ArgsOk (K : PySem.W.Frag) (io : List Nat) (A : Reg) (H : Hp) (vs : List V) (ds : List D) : Prop where
  len : vs.length = ds.length
  val : ∀ i d, ds[i]? = some d → i ∉ io → ∃ v, vs[i]? = some v ∧ Rep K H A v d
  own : ∀ i d, ds[i]? = some d → i ∈ io → ∃ p, vs[i]? = some (.ref p) ∧ OwnAt K H A p d ∧ ¬ A p
  apart : ∀ i j p, i ∈ io → j ∈ io → vs[i]? = some (.ref p) → vs[j]? = some (.ref p) → i = j
  ioin : ∀ i ∈ io, i < ds.length
  tab : LamX.Tabs TabT.T H
structure Post (K : PySem.W.Frag) (io : List Nat) (A : Reg) (H : Hp) (vs : List V) (H' : Hp) (os : List D) : Prop where
  base : ∀ a o, (∀ i ∈ io, vs[i]? ≠ some (.ref a)) → H a = some o → ∃ o', H' a = some o' ∧ Up o o'
  tab : LamX.Tabs TabT.T H'
  dom : ∀ a, H' a = none → H a = none
  own : ∀ k i : Nat, io[k]? = some i → ∃ p d, vs[i]? = some (.ref p) ∧ os[k]? = some d ∧ OwnAt K H' (fun a => (A a ∨ H a = none) ∧ ∀ j ∈ io, vs[j]? ≠ some (.ref a)) p d
def spD (K : PySem.W.Frag) (tn : Bool) (io : List Nat) (F : GF) : Sp := fun vs H Q E => ∃ A ds r os, ArgsOk K io A H vs ds ∧ F ds = some (r, os) ∧
  match r with
  | .val d => ∀ v H', Post K io A H vs H' os → Rep K H' (fun a => (A a ∨ H a = none) ∧ ∀ j ∈ io, vs[j]? ≠ some (.ref a)) v d → (tn = true → NewV H H' v) → Q v H'
  | .exc C d => ∀ a H', Post K io A H vs H' os → ExcAt K H' (fun a => (A a ∨ H a = none) ∧ ∀ j ∈ io, vs[j]? ≠ some (.ref a)) a d → E (.ref C) (some a) H'
/-! ### a def holds the promise that its own text reckons -/
def ioOf (env : Env) : List Nat → Option (List D)
  | [] => some []
  | i :: is => match env[i]?.join with
    | some d => match ioOf env is with
      | some ds => some (d :: ds)
      | none => none
    | none => none
/-- the def's function on data, by its body's -/
def runD (n m : Nat) (io : List Nat) (sf : SF) : GF := fun ds => if ds.length = n then (match sf (ds.map some ++ List.replicate (m - n) none) with
  | some (.nx, e) => (ioOf e io).map fun os => (.val .non, os)
  | some (.ret d, e) => (ioOf e io).map fun os => (.val d, os)
  | some (.exc C d, e) => (ioOf e io).map fun os => (.exc C d, os)
  | _ => none) else none
theorem ioOf_get : ∀ {io : List Nat} {env : Env} {os : List D}, ioOf env io = some os → ∀ k i : Nat, io[k]? = some i → ∃ d, os[k]? = some d ∧ env[i]? = some (some d)
  | [], _, _, _, k, i, h => by simp at h
  | i :: is, env, os, e, k, j, h => by
    unfold ioOf at e
    cases e1 : env[i]?.join with
    | none => simp [e1] at e
    | some d =>
      simp only [e1] at e
      cases e2 : ioOf env is with
      | none => simp [e2] at e
      | some ds =>
        simp only [e2] at e
        cases e
        cases k with
        | zero => simp at h; subst h; exact ⟨d, rfl, join_of e1⟩
        | succ k =>
          obtain ⟨d', h1, h2⟩ := ioOf_get e2 k j (by simpa using h)
          exact ⟨d', by simpa using h1, h2⟩
section
variable {K : PySem.W.Frag} {A : Reg} {H H' : Hp} {vs : List V} {ds : List D} {io own : List Nat} {env' : Env} {σ' : St} {os : List D} {m : Nat}
/-- the ground of the def's run -/
def gndOf (A : Reg) (H : Hp) (io : List Nat) (vs : List V) : Gnd := ⟨A, io.filterMap fun i => match vs[i]? with
  | some (V.ref p) => some (i, p)
  | _ => none, H, []⟩
theorem mem_gnd {i : Nat} {p : Addr} : (i, p) ∈ (gndOf A H io vs).pa ↔ i ∈ io ∧ vs[i]? = some (.ref p) := by
  show (i, p) ∈ io.filterMap _ ↔ _
  rw [List.mem_filterMap]
  constructor
  · rintro ⟨j, hj, e⟩
    split at e
    · rename_i q hq
      cases e; exact ⟨hj, hq⟩
    · cases e
  · rintro ⟨h1, h2⟩
    exact ⟨i, h1, by rw [h2]⟩
theorem start_get {N : List Str} (hl : vs.length ≤ N.length) {i : Nat} {v : V} (h : vs[i]? = some v) : (L2.start N vs)[i]? = some (some v) := by
  have hi := (List.getElem?_eq_some_iff.mp h).1
  unfold L2.start
  rw [List.getElem?_append_left (by rw [List.length_map]; exact hi), List.getElem?_map, h]; rfl
theorem env0_get {i : Nat} {d : D} (h : (ds.map some ++ List.replicate m none)[i]? = some (some d)) : ds[i]? = some d := by
  by_cases hi : i < ds.length
  · rw [List.getElem?_append_left (by rw [List.length_map]; exact hi), List.getElem?_map] at h
    cases q : ds[i]? with
    | none => rw [q] at h; cases h
    | some x => rw [q] at h; injection h
  · rw [List.getElem?_append_right (by rw [List.length_map]; omega)] at h
    rw [List.getElem?_replicate] at h
    split at h <;> cases h
theorem env0_ok {N : List Str} {n : Nat} (ok : ArgsOk K io A H vs ds) (hn : ds.length = n) (hN : n ≤ N.length) (ho : ∀ i ∈ io, i ∈ own) (hown : ∀ i ∈ own, i < n → i ∈ io) :
    EnvOk K ⟨own, io, [], []⟩ (gndOf A H io vs) Top (L2.start N vs) H (ds.map some ++ List.replicate (N.length - n) none) := by
  have hvl : vs.length ≤ N.length := by rw [ok.len, hn]; exact hN
  have sg : ∀ {i : Nat} {v : V}, vs[i]? = some v → (L2.start N vs)[i]? = some (some v) := fun h => start_get hvl h
  have lv : ∀ a, Live ⟨own, io, [], []⟩ (ds.map some ++ List.replicate (N.length - n) none) (L2.start N vs) a → ∃ i ∈ io, vs[i]? = some (.ref a) := by
    rintro a ⟨i, d, h1, h2, h3⟩
    have hd := env0_get h2
    have hi : i < n := by rw [← hn]; exact (List.getElem?_eq_some_iff.mp hd).1
    have hio := hown i h1 hi
    obtain ⟨p, hp, _⟩ := ok.own i d hd hio
    rw [sg hp] at h3; cases h3
    exact ⟨i, hio, hp⟩
  have nl : ∀ a, A a → ¬ Live ⟨own, io, [], []⟩ (ds.map some ++ List.replicate (N.length - n) none) (L2.start N vs) a := fun a ha l => by
    obtain ⟨i, hi, hv⟩ := lv a l
    have hil : i < ds.length := ok.ioin i hi
    obtain ⟨p, hp, _, na⟩ := ok.own i _ (List.getElem?_eq_getElem hil) hi
    rw [hv] at hp; cases hp
    exact na ha
  have zr : ∀ a, A a → Zr (gndOf A H io vs) ⟨own, io, [], []⟩ (ds.map some ++ List.replicate (N.length - n) none) (L2.start N vs) a ∧ True := fun a ha => ⟨⟨.inl ha, nl a ha⟩, trivial⟩
  exact {
    len := by
      unfold L2.start
      rw [List.length_append, List.length_append, List.length_map, List.length_map, List.length_replicate, List.length_replicate, ok.len, hn]
    val := fun i d e hi => by
      obtain ⟨v, h1, h2⟩ := ok.val i d (env0_get e) (fun q => hi (ho i q))
      exact ⟨v, sg h1, h2.mono fun a x => ⟨(zr a x).1, trivial⟩⟩
    own := fun i d e hi => by
      have hd := env0_get e
      have hin : i < n := by rw [← hn]; exact (List.getElem?_eq_some_iff.mp hd).1
      have hio := hown i hi hin
      obtain ⟨p, h1, h2, h3⟩ := ok.own i d hd hio
      exact ⟨p, sg h1, h2.mono fun a x => ⟨(zr a x).1, trivial⟩, fun _ => mem_gnd.mpr ⟨hio, h1⟩, fun q => absurd hio q⟩
    io := fun i p h => by
      obtain ⟨h1, h2⟩ := mem_gnd.mp h
      have hil : i < ds.length := ok.ioin i h1
      exact ⟨h1, ho i h1, sg h2, ds[i], by
        rw [List.getElem?_append_left (by rw [List.length_map]; exact hil), List.getElem?_map, List.getElem?_eq_getElem hil]; rfl⟩
    ioall := fun i hi => by
      have hil : i < ds.length := ok.ioin i hi
      obtain ⟨p, hp, _⟩ := ok.own i _ (List.getElem?_eq_getElem hil) hi
      exact ⟨p, mem_gnd.mpr ⟨hi, hp⟩⟩
    apart := fun i j d d' p hi hj h1 h2 h3 h4 => by
      have hd := env0_get h1
      have hd' := env0_get h2
      have hin : i < n := by rw [← hn]; exact (List.getElem?_eq_some_iff.mp hd).1
      have hjn : j < n := by rw [← hn]; exact (List.getElem?_eq_some_iff.mp hd').1
      obtain ⟨p1, hp1, _⟩ := ok.own i d hd (hown i hi hin)
      obtain ⟨p2, hp2, _⟩ := ok.own j d' hd' (hown j hj hjn)
      rw [sg hp1] at h3; cases h3
      rw [sg hp2] at h4; cases h4
      exact ok.apart i j p (hown i hi hin) (hown j hj hjn) hp1 hp2
    base := fun a o _ h => ⟨o, h, .refl o⟩
    tab := ok.tab
    dom := fun a h => h
    ap := fun i a h ha => by
      obtain ⟨h1, h2⟩ := mem_gnd.mp h
      have hil : i < ds.length := ok.ioin i h1
      obtain ⟨p, hp, _, na⟩ := ok.own i _ (List.getElem?_eq_getElem hil) h1
      rw [h2] at hp; cases hp
      exact na ha
    hold := fun h q => by rcases q with q | q <;> cases q
    ex := fun x q => nomatch q }
theorem zr_out {n : Nat} (ok : EnvOk K ⟨own, io, [], []⟩ (gndOf A H io vs) Top σ' H' env') : ∀ a, Zr (gndOf A H io vs) ⟨own, io, [], []⟩ env' σ' a → (A a ∨ H a = none) ∧ ∀ j ∈ io, vs[j]? ≠ some (.ref a) := fun a ⟨h, nl⟩ => ⟨h, fun j hj e => by
  obtain ⟨h1, h2, h3, d, h4⟩ := ok.io j a (mem_gnd.mpr ⟨hj, e⟩)
  exact nl ⟨j, d, h2, h4, h3⟩⟩
theorem post_of (ok : EnvOk K ⟨own, io, [], []⟩ (gndOf A H io vs) Top σ' H' env') (eo : ioOf env' io = some os) : Post K io A H vs H' os where
  base a o n h := ok.base a o (fun i hi => by
    obtain ⟨h1, h2⟩ := mem_gnd.mp hi
    exact n i h1 h2) h
  tab := ok.tab
  dom := ok.dom
  own k i hk := by
    obtain ⟨d, h1, h2⟩ := ioOf_get eo k i hk
    obtain ⟨p, hp⟩ := ok.ioall i (List.mem_of_getElem? hk)
    obtain ⟨_, hv⟩ := mem_gnd.mp hp
    obtain ⟨_, hown, hs, _⟩ := ok.io i p hp
    obtain ⟨q, hq, ho, _⟩ := ok.own i d h2 hown
    rw [hs] at hq; cases hq
    exact ⟨p, d, hv, h1, ho.mono fun a x => zr_out (n := 0) ok a x.1⟩
end
/-- .. where the body asks for its own code object -/
theorem def_okC {P : Program} {w : World} {K : PySem.W.Frag} {mg : Str → Option Value} {base : Heap} {x qual : Str} {st : Stmt} {f : Addr} {fd : FuncData} {N ps : List Str} {k : Nat} (F : Fun K x qual st f fd) (S : FnScope N ps (defScope st)) {own io : List Nat} {tn : Bool} {sf : SF}
    (hio : ∀ i ∈ io, i ∈ own := by decide) (hown : ∀ i ∈ own, i < ps.length → i ∈ io := by decide) (hN : ps.length ≤ N.length := by decide)
    (hb : ∀ (cdv : Value) (A : Around) (outer : List PySem.Env) (s : Shared) (H : Hp) (E : XK), fd.code = cdv → RoomG k (A.deeper (PyProof.Rows.envOfC qual (defScope st) s.heap.objs.size f cdv)) →
      DSs (cxOf (L2.CX P w) P w K mg base N qual (defScope st) f cdv A outer s H E) ⟨own, io, [], []⟩ (fun cls d _ H => E cls d H) tn (defBody st) sf) :
    FnG P w K mg base (L2.CX P w) (k + 1) f fd ps (spD K tn io (runD ps.length N.length io sf)) := by
  have inv : ∀ vs H Q E, spD K tn io (runD ps.length N.length io sf) vs H Q E → vs.length = ps.length := fun vs H Q E ⟨A, ds, r, os, ok, e, _⟩ => by
    unfold runD at e
    split at e
    · rename_i h; rw [ok.len]; exact h
    · cases e
  refine fnG_of F S inv fun cdv A outer s H vs Q E hcode hr h => ⟨_, hb cdv A outer s H E hcode hr, ?_⟩
  obtain ⟨Ar, ds, r, os, ok, e, q⟩ := h
  unfold runD at e
  split at e
  · rename_i hn
    have ok0 := env0_ok (N := N) ok hn hN hio hown
    cases e1 : sf (ds.map some ++ List.replicate (N.length - ps.length) none) with
    | none => rw [e1] at e; cases e
    | some re =>
      obtain ⟨fl, env'⟩ := re
      rw [e1] at e
      refine ⟨gndOf Ar H io vs, _, fl, env', ok0, e1, ?_⟩
      cases fl with
      | nx =>
        intro σ' H' ok'
        simp only at e
        cases eo : ioOf env' io with
        | none => simp [eo] at e
        | some os' =>
          simp only [eo, Option.map] at e
          cases e
          exact q .non H' (post_of ok' eo) .non fun _ => NewV.no fun _ z => nomatch z
      | ret d =>
        intro v σ' H' ok' rv t
        simp only at e
        cases eo : ioOf env' io with
        | none => simp [eo] at e
        | some os' =>
          simp only [eo, Option.map] at e
          cases e
          exact q v H' (post_of ok' eo) (rv.mono (zr_out (n := 0) ok')) t
      | exc C d =>
        intro a σ' H' ok' ha
        simp only at e
        cases eo : ioOf env' io with
        | none => simp [eo] at e
        | some os' =>
          simp only [eo, Option.map] at e
          cases e
          obtain ⟨v, h1, h2⟩ := ha
          exact q a H' (post_of ok' eo) ⟨v, h1, h2.mono (zr_out (n := 0) ok')⟩
      | brk => simp at e
      | cnt => simp at e
  · cases e
theorem def_ok {P : Program} {w : World} {K : PySem.W.Frag} {mg : Str → Option Value} {base : Heap} {x qual : Str} {st : Stmt} {f : Addr} {fd : FuncData} {N ps : List Str} {k : Nat} (F : Fun K x qual st f fd) (S : FnScope N ps (defScope st)) {own io : List Nat} {tn : Bool} {sf : SF}
    (hio : ∀ i ∈ io, i ∈ own := by decide) (hown : ∀ i ∈ own, i < ps.length → i ∈ io := by decide) (hN : ps.length ≤ N.length := by decide)
    (hb : ∀ (cdv : Value) (A : Around) (outer : List PySem.Env) (s : Shared) (H : Hp) (E : XK), RoomG k (A.deeper (PyProof.Rows.envOfC qual (defScope st) s.heap.objs.size f cdv)) →
      DSs (cxOf (L2.CX P w) P w K mg base N qual (defScope st) f cdv A outer s H E) ⟨own, io, [], []⟩ (fun cls d _ H => E cls d H) tn (defBody st) sf) :
    FnG P w K mg base (L2.CX P w) (k + 1) f fd ps (spD K tn io (runD ps.length N.length io sf)) :=
  def_okC F S hio hown hN fun cdv A outer s H E _ hr => hb cdv A outer s H E hr
end GR
/-! GG -/
set_option linter.all false
set_option maxRecDepth 100000
/-! Calls of own defs. -/
namespace GR
open PySem L2
variable [TabT]
def D.shallow : D → Bool
  | .lst ds => D.imms ds
  | .dK ks => D.imms (ks.map Prod.snd)
  | .ins _ gs => D.imms (gs.map Prod.snd)
  | d => d.imm
def slotsOf : List R1 → List Nat
  | [] => []
  | .slot i :: rs => i :: slotsOf rs
  | _ :: rs => slotsOf rs
def isSlot : Option R1 → Bool
  | some (.slot _) => true
  | _ => false
/-- the parameters io get things of ours, each its own -/
def argsFit (io : List Nat) (rs : List R1) : Bool := (io.all fun i => isSlot rs[i]?) && decide (slotsOf rs).Nodup && decide io.Nodup
/-- nothing of ours is lent for reading -/
def noLent (io : List Nat) : Nat → List R1 → Bool
  | _, [] => true
  | k, .slot _ :: rs => io.contains k && noLent io (k + 1) rs
  | k, _ :: rs => noLent io (k + 1) rs
def putIo (rs : List R1) : List Nat → List D → Env → Env
  | i :: is, o :: os, e => match rs[i]? with
    | some (.slot j) => putIo rs is os (e.set j (some o))
    | _ => putIo rs is os e
  | _, _, e => e
/-- the call of F with late arguments -/
def callK (tn : Bool) (io : List Nat) (F : GF) (rs : List R1) (e : Env) : Option (R1 × Env) := match ress rs e with
  | some ds => if argsFit io rs = true then (match F ds with
    | some (.val d, os) => if (os.all D.shallow && (noLent io 0 rs || d.imm || (tn && d.shallow))) = true then some (.val d, putIo rs io os e) else none
    | some (.exc C d, os) => if (os.all D.shallow && (noLent io 0 rs || d.imm)) = true then some (.exc C d, putIo rs io os e) else none
    | none => none) else none
  | none => none
def fCall (tn : Bool) (io : List Nat) (F : GF) (fa : AF) : EF := fun env => match fa env with
  | some (.exc C d, e) => some (.exc C d, e)
  | some (.vals rs, e) => callK tn io F rs e
  | none => none
section
variable {K : PySem.W.Frag} {g : Cfg} {G : Gnd} {B B' : Nat → Reg} {H H' H1 H2 : Hp} {σ : St} {env env' env1 env2 e : Env} {p : Addr} {d : D} {v : V} {vs : List V} {ds os : List D} {rs : List R1} {r : R1} {R R' L : Reg} {W : WX} {io : List Nat}
theorem OwnAt.immR (m : d.shallow = true) (o : OwnAt K H R p d) : OwnAt K H R' p d := by
  cases d with
  | lst ds => obtain ⟨vs, h, r⟩ := o; exact ⟨vs, h, r.immR m⟩
  | dK ks => obtain ⟨kvs, h, e, r⟩ := o; exact ⟨kvs, h, e, r.immR m⟩
  | ins C gs => obtain ⟨dx, fs, h, e, r⟩ := o; exact ⟨dx, fs, h, e, r.immR m⟩
  | _ => exact o.elim
theorem Rep.shallowR (m : d.shallow = true) (h : ∀ p, v = .ref p → R' p) (r : Rep K H R v d) : Rep K H R' v d := by
  cases r with
  | lst q hh r => exact .lst (h _ rfl) hh (r.immR m)
  | dK q hh e r => exact .dK (h _ rfl) hh e (r.immR m)
  | ins q hh e r => exact .ins (h _ rfl) hh e (r.immR m)
  | tup hh r => exact .tup hh (r.immR (by simpa [D.shallow, D.imm] using m))
  | non => exact .non
  | bl => exact .bl
  | int => exact .int
  | str => exact .str
  | ty => exact .ty
  | gl => exact .gl
  | frl hh => exact .frl hh
theorem putIo_out : ∀ {io : List Nat} {os : List D} {e : Env} {j : Nat} {d : D}, (putIo rs io os e)[j]? = some (some d) →
    (e[j]? = some (some d) ∧ True) ∨ ∃ k i : Nat, io[k]? = some i ∧ rs[i]? = some (.slot j) ∧ os[k]? = some d
  | [], _, e, j, d, h => .inl ⟨h, trivial⟩
  | _ :: _, [], e, j, d, h => .inl ⟨h, trivial⟩
  | i :: is, o :: os, e, j, d, h => by
    unfold putIo at h
    split at h
    · rename_i j0 hj
      rcases putIo_out h with ⟨h1, _⟩ | ⟨k, i', h1, h2, h3⟩
      · rcases get_set_of h1 with ⟨ej, eo⟩ | ⟨_, h2⟩
        · cases eo; subst ej
          exact .inr ⟨0, i, rfl, hj, rfl⟩
        · exact .inl ⟨h2, trivial⟩
      · exact .inr ⟨k + 1, i', by simpa using h1, h2, by simpa using h3⟩
    · rcases putIo_out h with h1 | ⟨k, i', h1, h2, h3⟩
      · exact .inl h1
      · exact .inr ⟨k + 1, i', by simpa using h1, h2, by simpa using h3⟩
theorem putIo_len : ∀ {io : List Nat} {os : List D} {e : Env}, (putIo rs io os e).length = e.length
  | [], _, _ => rfl
  | _ :: _, [], _ => rfl
  | i :: is, o :: os, e => by
    unfold putIo
    split
    · rw [putIo_len, List.length_set]
    · rw [putIo_len]
theorem putIo_live : ∀ {io : List Nat} {os : List D} {e : Env} {j : Nat}, (∃ d, e[j]? = some (some d)) → ∃ d, (putIo rs io os e)[j]? = some (some d)
  | [], _, _, _, h => h
  | _ :: _, [], _, _, h => h
  | i :: is, o :: os, e, j, h => by
    unfold putIo
    split
    · rename_i j0 _
      apply putIo_live
      by_cases q : j = j0
      · subst q
        obtain ⟨d, hd⟩ := h
        exact ⟨o, by rw [List.getElem?_set, if_pos rfl, if_pos (List.getElem?_eq_some_iff.mp hd).1]⟩
      · rw [set_get_ne q]; exact h
    · exact putIo_live h
/-- a slot that is given as it is -/
theorem putIo_keep : ∀ {io : List Nat} {os : List D} {e : Env} {j : Nat} {d : D}, (putIo rs io os e)[j]? = some (some d) → (∀ i ∈ io, rs[i]? ≠ some (.slot j)) → e[j]? = some (some d)
  | io, os, e, j, d, h, n => by
    rcases putIo_out h with h1 | ⟨k, i, h1, h2, _⟩
    · exact h1.1
    · exact absurd h2 (n i (List.mem_of_getElem? h1))
theorem slots_mem : ∀ {rs : List R1} {k j : Nat}, rs[k]? = some (.slot j) → j ∈ slotsOf rs
  | [], k, j, h => by simp at h
  | .slot i :: rs, 0, j, h => by simp at h; subst h; exact List.mem_cons_self
  | .slot i :: rs, k + 1, j, h => List.mem_cons_of_mem _ (slots_mem (k := k) (by simpa using h))
  | .val d :: rs, 0, j, h => by simp at h
  | .val d :: rs, k + 1, j, h => slots_mem (k := k) (rs := rs) (by simpa using h)
  | .exc C d :: rs, 0, j, h => by simp at h
  | .exc C d :: rs, k + 1, j, h => slots_mem (k := k) (rs := rs) (by simpa using h)
theorem slots_inj : ∀ {rs : List R1} {k k' j : Nat}, (slotsOf rs).Nodup → rs[k]? = some (.slot j) → rs[k']? = some (.slot j) → k = k'
  | [], k, _, j, _, h, _ => by simp at h
  | .slot i :: rs, 0, 0, j, _, _, _ => rfl
  | .slot i :: rs, 0, k' + 1, j, n, h, h' => by
    simp at h; subst h
    exact absurd (slots_mem (k := k') (by simpa using h')) (List.nodup_cons.mp n).1
  | .slot i :: rs, k + 1, 0, j, n, h, h' => by
    simp at h'; subst h'
    exact absurd (slots_mem (k := k) (by simpa using h)) (List.nodup_cons.mp n).1
  | .slot i :: rs, k + 1, k' + 1, j, n, h, h' => by
    rw [slots_inj (rs := rs) (k := k) (k' := k') (List.nodup_cons.mp n).2 (by simpa using h) (by simpa using h')]
  | .val d :: rs, 0, _, j, _, h, _ => by simp at h
  | .val d :: rs, k + 1, 0, j, _, _, h => by simp at h
  | .val d :: rs, k + 1, k' + 1, j, n, h, h' => by
    rw [slots_inj (rs := rs) (k := k) (k' := k') n (by simpa using h) (by simpa using h')]
  | .exc C d :: rs, 0, _, j, _, h, _ => by simp at h
  | .exc C d :: rs, k + 1, 0, j, _, _, h => by simp at h
  | .exc C d :: rs, k + 1, k' + 1, j, n, h, h' => by
    rw [slots_inj (rs := rs) (k := k) (k' := k') n (by simpa using h) (by simpa using h')]
theorem noLent_io : ∀ {rs : List R1} {m k j : Nat}, noLent io m rs = true → rs[k]? = some (.slot j) → (m + k) ∈ io
  | [], _, k, _, _, h => by simp at h
  | .slot i :: rs, m, 0, j, n, _ => by
    simp only [noLent, Bool.and_eq_true] at n
    simpa using n.1
  | .slot i :: rs, m, k + 1, j, n, h => by
    simp only [noLent, Bool.and_eq_true] at n
    have := noLent_io (rs := rs) (m := m + 1) (k := k) n.2 (by simpa using h)
    rwa [show m + (k + 1) = m + 1 + k by omega]
  | .val d :: rs, m, 0, j, n, h => by simp at h
  | .val d :: rs, m, k + 1, j, n, h => by
    have := noLent_io (rs := rs) (m := m + 1) (k := k) (by simpa [noLent] using n) (by simpa using h)
    rwa [show m + (k + 1) = m + 1 + k by omega]
  | .exc C d :: rs, m, 0, j, n, h => by simp at h
  | .exc C d :: rs, m, k + 1, j, n, h => by
    have := noLent_io (rs := rs) (m := m + 1) (k := k) (by simpa [noLent] using n) (by simpa using h)
    rwa [show m + (k + 1) = m + 1 + k by omega]
theorem paired_get' {α β : Type} {G : α → β → Prop} : ∀ {l₁ : List α} {l₂ : List β}, Paired G l₁ l₂ → ∀ {i : Nat} {b : β}, l₂[i]? = some b → ∃ a, l₁[i]? = some a ∧ G a b
  | _, _, .nil, i, b, h => by simp at h
  | _, _, .cons g _, 0, b, h => by simp at h; subst h; exact ⟨_, rfl, g⟩
  | _, _, .cons _ r, i + 1, b, h => by
    obtain ⟨a, h1, h2⟩ := paired_get' r (i := i) (by simpa using h)
    exact ⟨a, by simpa using h1, h2⟩
theorem paired_len {α β : Type} {G : α → β → Prop} : ∀ {l₁ : List α} {l₂ : List β}, Paired G l₁ l₂ → l₁.length = l₂.length
  | _, _, .nil => rfl
  | _, _, .cons _ r => by simp [paired_len r]
theorem ress_get : ∀ {rs : List R1} {ds : List D}, ress rs e = some ds → rs.length = ds.length ∧ ∀ {i : Nat} {d : D}, ds[i]? = some d → ∃ r, rs[i]? = some r ∧ res r e = some d
  | [], ds, h => by cases h; exact ⟨rfl, fun {i d} h => by simp at h⟩
  | r :: rs, ds, h => by
    unfold ress at h
    cases e1 : res r e with
    | none => simp [e1] at h
    | some d =>
      simp only [e1] at h
      cases e2 : ress rs e with
      | none => simp [e2] at h
      | some ds2 =>
        simp only [e2] at h
        cases h
        obtain ⟨h1, h2⟩ := ress_get e2
        refine ⟨by simp [h1], fun {i d'} h => ?_⟩
        cases i with
        | zero => simp at h; subst h; exact ⟨r, rfl, e1⟩
        | succ i =>
          obtain ⟨r', h3, h4⟩ := h2 (i := i) (d := d') (by simpa using h)
          exact ⟨r', by simpa using h3, h4⟩
/-- the region that a callee may read -/
def lentR (G : Gnd) (g : Cfg) (e : Env) (σ : St) (io : List Nat) (rs : List R1) : Reg := fun a => Zr G g e σ a ∨ ∃ k j d, rs[k]? = some (.slot j) ∧ k ∉ io ∧ e[j]? = some (some d) ∧ σ[j]? = some (some (.ref a))
theorem call_args (ok : EnvOk K g G B σ H e) (ls : Paired (Late K g G σ H e) vs rs) (er : ress rs e = some ds) (fit : argsFit io rs = true) : ArgsOk K io (lentR G g e σ io rs) H vs ds := by
  simp only [argsFit, Bool.and_eq_true, decide_eq_true_eq, List.all_eq_true] at fit
  obtain ⟨⟨f1, f2⟩, f3⟩ := fit
  obtain ⟨hl, hg⟩ := ress_get er
  have sl : ∀ {i j : Nat} {d : D}, rs[i]? = some (.slot j) → res (.slot j) e = some d → ∃ p, vs[i]? = some (.ref p) ∧ j ∈ g.own ∧ e[j]? = some (some d) ∧ σ[j]? = some (some (.ref p)) ∧ OwnAt K H (fun a => Zr G g e σ a ∧ B j a) p d := fun {i j d} h1 h2 => by
    obtain ⟨v, hv, hs, ho⟩ := paired_get' ls h1
    have ed := join_of (show e[j]?.join = some d from h2)
    obtain ⟨p, hp, hh, _⟩ := ok.own j d ed ho
    rw [hs] at hp; cases hp
    exact ⟨p, hv, ho, ed, hs, hh⟩
  exact {
    tab := ok.tab
    len := by rw [paired_len ls, hl]
    val := fun i d hd hi => by
      obtain ⟨r, hr, hres⟩ := hg hd
      cases r with
      | val d' =>
        cases hres
        obtain ⟨v, hv, l⟩ := paired_get' ls hr
        exact ⟨v, hv, Rep.mono (fun a x => .inl x) l⟩
      | slot j =>
        obtain ⟨p, hv, hj, hej, hσ, ho⟩ := sl hr hres
        exact ⟨_, hv, ho.rep (.inr ⟨i, j, d, hr, hi, hej, hσ⟩) fun a x => ⟨.inl x.1, fun z => x.1.2 (by subst z; exact ⟨j, d, hj, hej, hσ⟩)⟩⟩
      | exc C d' => cases hres
    own := fun i d hd hi => by
      obtain ⟨r, hr, hres⟩ := hg hd
      have := f1 i hi
      rw [hr] at this
      cases r with
      | val d' => cases this
      | exc C d' => cases this
      | slot j =>
        obtain ⟨p, hv, hj, hej, hσ, ho⟩ := sl hr hres
        refine ⟨p, hv, ho.mono fun a x => .inl x.1, ?_⟩
        rintro (z | ⟨k, j', d', h1, h2, h3, h4⟩)
        · exact z.2 ⟨j, d, hj, hej, hσ⟩
        · obtain ⟨v', hv', hs', ho'⟩ := paired_get' ls h1
          have ej := ok.apart j j' d d' p hj ho' hej h3 hσ h4
          subst ej
          exact h2 (by rw [slots_inj f2 h1 hr]; exact hi)
    apart := fun i j p hi hj h1 h2 => by
      have gi := f1 i hi
      have gj := f1 j hj
      cases ri : rs[i]? with
      | none => rw [ri] at gi; cases gi
      | some r1 =>
        rw [ri] at gi
        cases r1 with
        | val d' => cases gi
        | exc C d' => cases gi
        | slot a =>
          cases rj : rs[j]? with
          | none => rw [rj] at gj; cases gj
          | some r2 =>
            rw [rj] at gj
            cases r2 with
            | val d' => cases gj
            | exc C d' => cases gj
            | slot b =>
              have hil : i < ds.length := by rw [← hl]; exact (List.getElem?_eq_some_iff.mp ri).1
              have hjl : j < ds.length := by rw [← hl]; exact (List.getElem?_eq_some_iff.mp rj).1
              obtain ⟨r', hr', hres'⟩ := hg (List.getElem?_eq_getElem hil)
              rw [ri] at hr'; cases hr'
              obtain ⟨r'', hr'', hres''⟩ := hg (List.getElem?_eq_getElem hjl)
              rw [rj] at hr''; cases hr''
              obtain ⟨p1, hv1, ho1, he1, hs1, _⟩ := sl ri hres'
              obtain ⟨p2, hv2, ho2, he2, hs2, _⟩ := sl rj hres''
              rw [h1] at hv1; cases hv1
              rw [h2] at hv2; cases hv2
              have := ok.apart a b _ _ p ho1 ho2 he1 he2 hs1 hs2
              subst this
              exact slots_inj f2 ri rj
    ioin := fun i hi => by
      have gi := f1 i hi
      cases ri : rs[i]? with
      | none => rw [ri] at gi; cases gi
      | some r1 => rw [← hl]; exact (List.getElem?_eq_some_iff.mp ri).1 }
theorem call_post (ok : EnvOk K g G B σ H e) (ls : Paired (Late K g G σ H e) vs rs) (er : ress rs e = some ds) (fit : argsFit io rs = true) (p : Post K io (lentR G g e σ io rs) H vs H' os) (sh : os.all D.shallow = true) :
    Stp K g G B σ H e H' (putIo rs io os e) := by
  have AO := call_args ok ls er fit
  simp only [argsFit, Bool.and_eq_true, decide_eq_true_eq, List.all_eq_true] at fit
  obtain ⟨⟨f1, f2⟩, f3⟩ := fit
  obtain ⟨hl, hg⟩ := ress_get er
  -- a touched address is a slot's of ours
  have tch : ∀ {i : Nat} {a : Addr}, i ∈ io → vs[i]? = some (.ref a) → ∃ j d, rs[i]? = some (.slot j) ∧ j ∈ g.own ∧ e[j]? = some (some d) ∧ σ[j]? = some (some (.ref a)) ∧ OwnAt K H (fun a => Zr G g e σ a ∧ B j a) a d := fun {i a} hi hv => by
    have gi := f1 i hi
    cases ri : rs[i]? with
    | none => rw [ri] at gi; cases gi
    | some r1 =>
      rw [ri] at gi
      cases r1 with
      | val d' => cases gi
      | exc C d' => cases gi
      | slot j =>
        have hil : i < ds.length := by rw [← hl]; exact (List.getElem?_eq_some_iff.mp ri).1
        obtain ⟨r', hr', hres'⟩ := hg (List.getElem?_eq_getElem hil)
        rw [ri] at hr'; cases hr'
        obtain ⟨v, hv', hs, ho⟩ := paired_get' ls ri
        rw [hv] at hv'; cases hv'
        have ed := join_of (show e[j]?.join = some _ from hres')
        obtain ⟨q, hq, hh, _⟩ := ok.own j _ ed ho
        rw [hs] at hq; cases hq
        exact ⟨j, _, rfl, ho, ed, hs, hh⟩
  have exact_ : ∀ a o, ¬ Live g e σ a → H a = some o → ∃ o', H' a = some o' ∧ Up o o' := fun a o nl h => p.base a o (fun i hi hv => by
    obtain ⟨j, d, _, h2, h3, h4, _⟩ := tch hi hv
    exact nl ⟨j, d, h2, h3, h4⟩) h
  have stay_ : ∀ a o, Stay o → H a = some o → ∃ o', H' a = some o' ∧ Up o o' := fun a o st h => p.base a o (fun i hi hv => by
    obtain ⟨j, d, _, h2, h3, h4, h5⟩ := tch hi hv
    cases d with
    | lst ds => obtain ⟨vs, hh, _⟩ := h5; rw [hh] at h; cases h; exact st
    | dK ds => obtain ⟨vs, hh, _⟩ := h5; rw [hh] at h; cases h; exact st
    | ins C ds => obtain ⟨_, vs, hh, _⟩ := h5; rw [hh] at h; cases h; exact st
    | _ => exact h5) h
  have fr : Fr (fun a => ¬ Live g e σ a) H H' := fun a o h e' => by
    obtain ⟨o', h1, u⟩ := h.elim (fun n => exact_ a o n e') (fun s => stay_ a o s e')
    exact ⟨o', h1, .inl u⟩
  have lv : ∀ a, Live g (putIo rs io os e) σ a → Live g e σ a := by
    rintro a ⟨j, d, h1, h2, h3⟩
    rcases putIo_out h2 with ⟨h, _⟩ | ⟨k, i, hk, hi, _⟩
    · exact ⟨j, d, h1, h, h3⟩
    · have him := List.mem_of_getElem? hk
      obtain ⟨q, d', hv, _, _⟩ := p.own k i hk
      obtain ⟨j', d2, g1, g2, g3, g4, _⟩ := tch him hv
      rw [hi] at g1; cases g1
      exact ⟨j, d2, g2, g3, h3⟩
  have zr : ∀ a, Zr G g e σ a → Zr G g (putIo rs io os e) σ a := fun a ⟨h, n⟩ => ⟨h, fun q => n (lv a q)⟩
  have frz : ∀ (i : Nat), Fr (fun a => Zr G g e σ a ∧ B i a) H H' := fun i => fr.mono fun a x => x.1.2
  refine ⟨?_, fr, lv, p.dom⟩
  exact {
    len := by rw [putIo_len]; exact ok.len
    val := fun i d he hi => by
      have h0 : e[i]? = some (some d) := putIo_keep he fun k hk hr => by
        obtain ⟨v, _, _, ho⟩ := paired_get' ls hr
        exact hi ho
      obtain ⟨v, h1, h2⟩ := ok.val i d h0 hi
      exact ⟨v, h1, (h2.fr (frz _)).mono fun a x => ⟨zr a x.1, x.2⟩⟩
    own := fun i d he hi => by
      by_cases ht : ∃ k ∈ io, rs[k]? = some (.slot i)
      · obtain ⟨k0, hk0, hr0⟩ := ht
        rcases putIo_out he with ⟨h0, _⟩ | ⟨k, i', hk, hr, ho⟩
        · -- untouched after all: its own slot all the same
          obtain ⟨q, h1, h2, h3⟩ := ok.own i d h0 hi
          obtain ⟨idx, hidx⟩ := List.getElem?_of_mem hk0
          obtain ⟨q', d', hv, hos, how⟩ := p.own idx k0 hidx
          obtain ⟨j', d2, g1, g2, g3, g4, _⟩ := tch hk0 hv
          rw [hr0] at g1; cases g1
          rw [h1] at g4; cases g4
          -- d is what putIo has put: it must be one of os
          have : ∃ k i' : Nat, io[k]? = some i' ∧ rs[i']? = some (.slot i) ∧ os[k]? = some d := by
            have key : ∀ {io : List Nat} {os : List D} {e : Env}, (∃ k i' : Nat, io[k]? = some i' ∧ rs[i']? = some (.slot i) ∧ k < os.length) → (i < e.length) → (putIo rs io os e)[i]? = some (some d) → ∃ k i' : Nat, io[k]? = some i' ∧ rs[i']? = some (.slot i) ∧ os[k]? = some d := by
              intro io
              induction io with
              | nil => rintro os e ⟨k, i', h, _⟩; simp at h
              | cons a is ih =>
                rintro os e ⟨k, i', hk, hr, hlt⟩ hie hp
                cases os with
                | nil => simp at hlt
                | cons o os =>
                  by_cases later : ∃ k i' : Nat, is[k]? = some i' ∧ rs[i']? = some (.slot i) ∧ k < os.length
                  · unfold putIo at hp
                    split at hp
                    · obtain ⟨k2, i2, x1, x2, x3⟩ := ih later (by rw [List.length_set]; exact hie) hp
                      exact ⟨k2 + 1, i2, by simpa using x1, x2, by simpa using x3⟩
                    · obtain ⟨k2, i2, x1, x2, x3⟩ := ih later hie hp
                      exact ⟨k2 + 1, i2, by simpa using x1, x2, by simpa using x3⟩
                  · cases k with
                    | succ k => exact absurd ⟨k, i', by simpa using hk, hr, by simpa using hlt⟩ later
                    | zero =>
                      simp at hk; subst hk
                      unfold putIo at hp
                      rw [hr] at hp
                      simp only at hp
                      rcases putIo_out hp with ⟨h, _⟩ | ⟨k2, i2, x1, x2, x3⟩
                      · rw [List.getElem?_set, if_pos rfl, if_pos hie] at h
                        cases h
                        exact ⟨0, a, rfl, hr, rfl⟩
                      · exact ⟨k2 + 1, i2, by simpa using x1, x2, by simpa using x3⟩
            exact key ⟨idx, k0, hidx, hr0, (List.getElem?_eq_some_iff.mp hos).1⟩ (List.getElem?_eq_some_iff.mp h0).1 he
          obtain ⟨k, i', hk, hr, ho⟩ := this
          obtain ⟨q2, d3, hv2, hos2, how2⟩ := p.own k i' hk
          rw [ho] at hos2; cases hos2
          obtain ⟨j3, d4, y1, y2, y3, y4, _⟩ := tch (List.mem_of_getElem? hk) hv2
          rw [hr] at y1; cases y1
          rw [h1] at y4; cases y4
          exact ⟨q, h1, how2.immR (List.all_eq_true.mp sh d (List.mem_of_getElem? ho)), h3⟩
        · obtain ⟨q2, d3, hv2, hos2, how2⟩ := p.own k i' hk
          rw [ho] at hos2; cases hos2
          obtain ⟨j3, d4, y1, y2, y3, y4, _⟩ := tch (List.mem_of_getElem? hk) hv2
          rw [hr] at y1; cases y1
          obtain ⟨q, h1, h2, h3⟩ := ok.own i d4 y3 hi
          rw [y4] at h1; cases h1
          exact ⟨q2, y4, how2.immR (List.all_eq_true.mp sh d (List.mem_of_getElem? ho)), h3⟩
      · have h0 : e[i]? = some (some d) := putIo_keep he fun k hk hr => ht ⟨k, hk, hr⟩
        obtain ⟨q, h1, h2, h3⟩ := ok.own i d h0 hi
        have hq : ∀ o, H q = some o → H' q = some o := fun o h => by
         obtain ⟨ob, hb, bx⟩ := h2.box
         have eo : ob = o := Option.some.inj (hb.symm.trans h)
         subst eo
         obtain ⟨o', h1', u⟩ := p.base q ob (fun k hk hv => by
          obtain ⟨j, d', g1, g2, g3, g4, _⟩ := tch hk hv
          have := ok.apart i j d d' q hi g2 h0 g3 h1 g4
          subst this
          exact ht ⟨k, hk, g1⟩) hb
         rw [h1', u.eq bx.noTbl]
        exact ⟨q, h1, (h2.fr hq (frz _)).mono fun a x => ⟨zr a x.1, x.2⟩, h3⟩
    io := fun i a h => by
      obtain ⟨h1, h2, h3, h4⟩ := ok.io i a h
      exact ⟨h1, h2, h3, putIo_live h4⟩
    ioall := ok.ioall
    apart := fun a b d1 d2 q ha hb h1 h2 h3 h4 => by
      have back : ∀ {j : Nat} {d : D}, j ∈ g.own → (putIo rs io os e)[j]? = some (some d) → ∃ d, e[j]? = some (some d) := fun {j d} hj h => by
        rcases putIo_out h with ⟨h, _⟩ | ⟨k, i, hk, hi, _⟩
        · exact ⟨d, h⟩
        · obtain ⟨q, d', hv, _, _⟩ := p.own k i hk
          obtain ⟨j', d2, g1, g2, g3, g4, _⟩ := tch (List.mem_of_getElem? hk) hv
          rw [hi] at g1; cases g1
          exact ⟨d2, g3⟩
      obtain ⟨x1, y1⟩ := back ha h1
      obtain ⟨x2, y2⟩ := back hb h2
      exact ok.apart a b x1 x2 q ha hb y1 y2 h3 h4
    base := fun a o n h => by
     obtain ⟨o1, e1, u1⟩ := ok.base a o n h
     obtain ⟨o2, e2, u2⟩ := p.base a o1 (fun i hi hv => by
      obtain ⟨j, d, g1, g2, g3, g4, _⟩ := tch hi hv
      obtain ⟨q, hq, _, k1, k2⟩ := ok.own j d g3 g2
      rw [g4] at hq; cases hq
      by_cases hj : j ∈ g.io
      · exact n j (k1 hj)
      · rw [k2 hj] at h; cases h) e1
     exact ⟨o2, e2, u1.trans u2⟩
    tab := p.tab
    dom := fun a h => ok.dom a (p.dom a h)
    ap := ok.ap
    hold := fun h q => h.mono _ _ _ (h.fr _ _ _ (ok.hold h q) (frz _)) fun a x => ⟨zr a x.1, x.2⟩
    ex := ok.ex }
end
end GR
/-! GH -/
set_option linter.all false
set_option maxRecDepth 100000
namespace GR
open PySem L2
variable [TabT]
/-- a def of the module, by its name -/
structure Callee (P : Program) (w : World) (K : PySem.W.Frag) (mg : Str → Option Value) (base : Heap) (x : Str) (st : Stmt) (ps : List Str) (tn : Bool) (io : List Nat) (F : GF) (k : Nat) : Prop where
  ex : ∃ (f : Addr) (fd : FuncData), Fun K x x st f fd ∧ FnG P w K mg base (L2.CX P w) k f fd ps (spD K tn io F) ∧ mg x = some (.ref f) ∧ PySem.W.keepIn K (.ref f) = true ∧ Binds K fd ps []
theorem Callee.mono {P : Program} {w : World} {K : PySem.W.Frag} {mg : Str → Option Value} {base : Heap} {x : Str} {st : Stmt} {ps : List Str} {tn : Bool} {io : List Nat} {F : GF} {j k : Nat} (c : Callee P w K mg base x st ps tn io F j) (h : j ≤ k) : Callee P w K mg base x st ps tn io F k := by
  obtain ⟨f, fd, h0, h1, h2⟩ := c.ex
  exact ⟨f, fd, h0, h1.mono h, h2⟩
section
variable {K : PySem.W.Frag} {g : Cfg} {W : WX} {tn : Bool} {σ : St} {H : Hp} {Q : VK} {io : List Nat} {F : GF}
theorem call_core {G : Gnd} {B : Nat → Reg} {env env1 env' : Env} {H1 : Hp} {vs : List V} {rs : List R1} {r0 : R1} (s : Stp K g G B σ H env H1 env1) (ls : Paired (Late K g G σ H1 env1) vs rs) (e : callK tn io F rs env1 = some (r0, env'))
    (kv : ∀ v H', Stp K g G B σ H env H' env' → Late K g G σ H' env' v r0 → (∀ d, r0 = .val d → tn = true → NewV H H' v) → Q v H')
    (kx : ∀ C d, r0 = .exc C d → ∀ a H', Stp K g G B σ H env H' env' → ExcAt K H' (Zr G g env' σ) a d → W (.ref C) (some a) σ H') : spD K tn io F vs H1 Q (WE W σ) := by
  unfold callK at e
  cases e2 : ress rs env1 with
  | none => simp [e2] at e
  | some ds =>
    simp only [e2] at e
    by_cases fit : argsFit io rs = true
    · rw [if_pos fit] at e
      have AO := call_args s.ok ls e2 fit
      cases e3 : F ds with
      | none => simp [e3] at e
      | some ro =>
        obtain ⟨r, os⟩ := ro
        simp only [e3] at e
        refine ⟨_, ds, r, os, AO, e3, ?_⟩
        -- what the callee may give back is ours to hold
        have back : ∀ {v : V} {d : D} {H2 : Hp}, Post K io (lentR G g env1 σ io rs) H1 vs H2 os → os.all D.shallow = true → Rep K H2 (fun a => (lentR G g env1 σ io rs a ∨ H1 a = none) ∧ ∀ j ∈ io, vs[j]? ≠ some (.ref a)) v d →
            (noLent io 0 rs = true ∨ d.imm = true ∨ (d.shallow = true ∧ NewV H1 H2 v)) → Rep K H2 (Zr G g (putIo rs io os env1) σ) v d := fun {v d H2} p sh r c => by
          have st := call_post s.ok ls e2 fit p sh
          have zf : ∀ a, H1 a = none → Zr G g (putIo rs io os env1) σ a := fun a ha => st.zr a (s.ok.fresh ha)
          rcases c with c | c | ⟨c, n⟩
          · refine r.mono fun a x => ?_
            rcases x.1 with (z | ⟨k, j, dj, h1, h2, _⟩) | z
            · exact st.zr a z
            · exact absurd (by simpa using noLent_io c h1) h2
            · exact zf a z
          · exact r.immR c
          · exact r.shallowR c fun p hp => zf p (n p hp).1
        cases r with
        | val d =>
          simp only at e
          split at e
          · rename_i hc
            cases e
            simp only [Bool.and_eq_true, Bool.or_eq_true] at hc
            intro v H2 p rv t
            have st := call_post s.ok ls e2 fit p hc.1
            refine kv v H2 (s.trans st) (back p hc.1 rv ?_) fun _ _ q => (t q).back s.dom
            rcases hc.2 with (c | c) | ⟨c, c'⟩
            · exact .inl c
            · exact .inr (.inl c)
            · exact .inr (.inr ⟨c', t c⟩)
          · cases e
        | exc C d =>
          simp only at e
          split at e
          · rename_i hc
            cases e
            simp only [Bool.and_eq_true, Bool.or_eq_true] at hc
            intro a H2 p ha
            have st := call_post s.ok ls e2 fit p hc.1
            obtain ⟨v, h1, h2⟩ := ha
            exact kx C d rfl a H2 (s.trans st) ⟨v, h1, back p hc.1 h2 (hc.2.imp id .inl)⟩
          · cases e
    · rw [if_neg fit] at e; cases e
theorem call_rd {fa : AF} (h : DEr K g W tn (fCall tn io F fa) σ H Q) : DAr K g W fa σ H (fun xs H1 => spD K tn io F xs H1 Q (WE W σ)) := by
  obtain ⟨G, B, env, r0, env', ok, e, kv, kx⟩ := h.out
  unfold fCall at e
  cases e1 : fa env with
  | none => rw [e1] at e; cases e
  | some re =>
    obtain ⟨r1, e1'⟩ := re
    rw [e1] at e
    refine DAr.intro ok e1 (fun rs er vs H1 s ls => ?_) (fun C d er a H1 s ha => ?_)
    · subst er
      exact call_core s ls e kv kx
    · subst er; cases e
      exact kx C d rfl a H1 s ha
end
section
variable {X : Cx} {g : Cfg} {W : WX} {tn : Bool} {e : Expr} {es : List Expr} {fa : AF} {pos p : Pos} {io : List Nat} {F : GF} {k : Nat} {x : Str} {st : Stmt} {ps : List Str}
theorem de_call (c : Callee X.prog X.w X.K X.mg X.base x st ps tn io F k) (hr : RoomG k X.A) (tk : Takes X W) (hg : Gl X x) (ha : DA X g W (e :: es) fa)
    (hd : (x == ("__debug__" : Str)) = false := by decide) (he : starEach (e :: es) X.env = (false, eval e X.env) :: starEach es X.env := by rfl) (hpl : (backTo pos (starEach es X.env)).any (·.1) = false := by rfl) :
    DE X g W tn (.Call (.Name x p) (e :: es) [] pos) (fCall tn io F fa) := by
  obtain ⟨f, fd, _, F', hm, hk, hb⟩ := c.ex
  exact (pe_callG F' hr hg hm hk hb (fun σ => passAt tk σ) ha hd he hpl).imp fun _ _ _ => call_rd
end
end GR
/-! GI -/
set_option linter.all false
set_option maxRecDepth 100000
/-! Tests, targets, loops. -/
namespace GR
open PySem L2
variable [TabT]
/-! ### tests -/
def D.truth : D → Option Bool
  | .non => some false
  | .bl b => some b
  | .int i => some (i != 0)
  | .str x => if x.length ≤ 16777216 then some ((x.length : Int) != 0) else none
  | .lst ds => some (!ds.isEmpty)
  | .tup ds => some (!ds.isEmpty)
  | .frl is => some (!is.isEmpty)
  | _ => none
def fTruth (fe : EF) : TF := fun env => match fe env with
  | some (.exc C d, e) => some (.exc C d, e)
  | some (r, e) => match res r e with
    | some d => match d.truth with
      | some b => some (.b b, e)
      | none => none
    | none => none
  | none => none
/-- a value that is a bool -/
def fBool (fe : EF) : TF := fun env => match fe env with
  | some (.exc C d, e) => some (.exc C d, e)
  | some (.val (.bl b), e) => some (.b b, e)
  | _ => none
def fAnd (f1 f2 : TF) : TF := fun env => match f1 env with
  | some (.b true, e) => f2 e
  | some (.b false, e) => some (.b false, e)
  | some (.exc C d, e) => some (.exc C d, e)
  | none => none
def fOr (f1 f2 : TF) : TF := fun env => match f1 env with
  | some (.b false, e) => f2 e
  | some (.b true, e) => some (.b true, e)
  | some (.exc C d, e) => some (.exc C d, e)
  | none => none
def fNot (f1 : TF) : TF := fun env => match f1 env with
  | some (.b b, e) => some (.b (!b), e)
  | some (.exc C d, e) => some (.exc C d, e)
  | none => none
/-- a test as a value -/
def fOfT (f : TF) : EF := fun env => match f env with
  | some (.b b, e) => some (.val (.bl b), e)
  | some (.exc C d, e) => some (.exc C d, e)
  | none => none
def fIfE (fc : TF) (f1 f2 : EF) : EF := fun env => match fc env with
  | some (.b true, e) => f1 e
  | some (.b false, e) => f2 e
  | some (.exc C d, e) => some (.exc C d, e)
  | none => none
section
variable {K : PySem.W.Frag} {g : Cfg} {G : Gnd} {B B' : Nat → Reg} {H H' H1 H2 : Hp} {σ σ' : St} {env env' env1 env2 e : Env} {p : Addr} {d : D} {v : V} {vs : List V} {ds os : List D} {rs : List R1} {r : R1} {R R' L : Reg} {W : WX} {tn : Bool}
theorem truth_ok (r : RepB K H R L v d) {b : Bool} (h : d.truth = some b) : TruV K v H b := by
  cases d with
  | non => cases h; rw [r.non]; rfl
  | bl b => cases h; rw [r.bl]; rfl
  | int i => cases h; rw [r.int]; rfl
  | str x =>
    simp only [D.truth] at h
    split at h
    · rename_i hl
      cases h; rw [r.str]; exact ⟨by rw [sizeLine_eq]; exact hl, rfl⟩
    · cases h
  | lst ds =>
    cases h
    obtain ⟨p, vs, rfl, hp, q⟩ := r.lst
    refine .inl ⟨vs, SqL.of hp, ?_⟩
    cases q <;> rfl
  | tup ds =>
    cases h
    obtain ⟨p, vs, rfl, hp, q⟩ := r.tup
    refine .inr (.inl ⟨vs, hp, ?_⟩)
    cases q <;> rfl
  | frl is =>
    cases h
    obtain ⟨p, rfl, hp⟩ := r.frl
    refine .inl ⟨_, hp, ?_⟩
    cases is <;> rfl
  | _ => cases h
theorem DTr.intro {f : TF} {Q : Bool → Hp → Prop} (ok : EnvOk K g G B σ H env) {r : RT} (e : f env = some (r, env'))
    (k : ∀ x, r = .b x → ∀ H', Stp K g G B σ H env H' env' → Q x H')
    (x : ∀ C d, r = .exc C d → ∀ a H', Stp K g G B σ H env H' env' → ExcAt K H' (Zr G g env' σ) a d → W (.ref C) (some a) σ H') : DTr K g W f σ H Q := by
  refine ⟨G, B, env, r, env', ok, e, ?_⟩
  cases r with
  | b y => exact k y rfl
  | exc C d => exact x C d rfl
theorem truth_rd {fe : EF} {Q : Bool → Hp → Prop} (h : DTr K g W (fTruth fe) σ H Q) : DEr K g W tn fe σ H (fun x H' => ∃ k, TruV K x H' k ∧ Q k H') := by
  obtain ⟨G, B, env, r, env', ok, e, q⟩ := h
  unfold fTruth at e
  cases e1 : fe env with
  | none => rw [e1] at e; cases e
  | some re =>
    obtain ⟨r1, e1'⟩ := re
    rw [e1] at e
    refine DEr.intro ok e1 (fun v H1 s l _ => ?_) (fun C d er a H1 s ha => ?_)
    · have main : (match res r1 e1' with
        | some d => match d.truth with
          | some b => some (RT.b b, e1')
          | none => none
        | none => none) = some (r, env') → ∃ k, TruV K v H1 k ∧ Q k H1 := fun e => by
        cases e2 : res r1 e1' with
        | none => simp [e2] at e
        | some d =>
          simp only [e2] at e
          cases e3 : d.truth with
          | none => simp [e3] at e
          | some b =>
            simp only [e3] at e
            cases e
            exact ⟨b, truth_ok (l.res s.ok e2) e3, q H1 s⟩
      cases r1 with
      | val d => exact main e
      | slot i => exact main e
      | exc C d => exact l.elim
    · subst er; cases e; exact q a H1 s ha
theorem bool_rd {fe : EF} {Q : Bool → Hp → Prop} (h : DTr K g W (fBool fe) σ H Q) : DEr K g W tn fe σ H (fun x H' => ∃ k, x = .bl k ∧ Q k H') := by
  obtain ⟨G, B, env, r, env', ok, e, q⟩ := h
  unfold fBool at e
  cases e1 : fe env with
  | none => rw [e1] at e; cases e
  | some re =>
    obtain ⟨r1, e1'⟩ := re
    rw [e1] at e
    refine DEr.intro ok e1 (fun v H1 s l _ => ?_) (fun C d er a H1 s ha => ?_)
    · cases r1 with
      | val d =>
        cases d with
        | bl b => cases e; cases l; exact ⟨b, rfl, q H1 s⟩
        | _ => cases e
      | slot i => cases e
      | exc C d => exact l.elim
    · subst er; cases e; exact q a H1 s ha
end
section
variable {X : Cx} {g : Cfg} {W : WX} {tn ta tb : Bool} {a b c e : Expr} {rest : List Expr} {fe fa fb : EF} {f1 f2 fc : TF} {pos : Pos}
theorem dt_truth (h : DE X g W tn e fe) (he : ∀ whole, isTrue e X.env whole = (do let v ← whole; standAt e.pos; holding [v] (truthy v)) := by intro _; rfl) : DT X g W e (fTruth fe) := (pt_truth h he).imp fun _ _ _ => truth_rd
/-- a comparison as a test -/
theorem dt_cmp {op : CmpOp} {r : R2} {gg : D → D → Option D} (hr : OpR X (compareOp op) r) (hs : Op2 X.K r tn gg) (ha : DE X g W ta a fa) (hb : DE X g W tb b fb) (hm : behindInMarks op b = false) : DT X g W (.Compare a [op] [b] pos) (fBool (fOp2 gg fa fb)) :=
  (pt_cmpR hr ha hb hm).imp fun σ H Q h => op2_rd hs (bool_rd h)
theorem dt_not (h : DT X g W a f1) : DT X g W (.UnaryOp .Not a pos) (fNot f1) := (pt_not h).imp fun σ H Q ⟨G, B, env, r, env', ok, e, q⟩ => by
  unfold fNot at e
  cases e1 : f1 env with
  | none => rw [e1] at e; cases e
  | some re =>
    obtain ⟨r1, e1'⟩ := re
    rw [e1] at e
    refine DTr.intro ok e1 (fun x er H1 s => ?_) (fun C d er a H1 s ha => ?_)
    · subst er; cases e; exact q H1 s
    · subst er; cases e; exact q a H1 s ha
theorem and_rd {K : PySem.W.Frag} {σ : St} {H : Hp} {Q : Bool → Hp → Prop} (h : DTr K g W (fAnd f1 f2) σ H Q) : tAnd (DTr K g W f1) (DTr K g W f2) σ H Q := by
  obtain ⟨G, B, env, r, env', ok, e, q⟩ := h
  unfold fAnd at e
  cases e1 : f1 env with
  | none => rw [e1] at e; cases e
  | some re =>
    obtain ⟨r1, e1'⟩ := re
    rw [e1] at e
    refine DTr.intro ok e1 (fun x er H1 s => ?_) (fun C d er a H1 s ha => ?_)
    · subst er
      cases x with
      | true =>
        rw [if_pos rfl]
        refine DTr.intro s.ok e (fun x er H2 s2 => ?_) (fun C d er a H2 s2 ha => ?_)
        · subst er; exact q H2 (s.trans s2)
        · subst er; exact q a H2 (s.trans s2) ha
      | false => rw [if_neg (fun z => nomatch z)]; cases e; exact q H1 s
    · subst er; cases e; exact q a H1 s ha
theorem or_rd {K : PySem.W.Frag} {σ : St} {H : Hp} {Q : Bool → Hp → Prop} (h : DTr K g W (fOr f1 f2) σ H Q) : tOr (DTr K g W f1) (DTr K g W f2) σ H Q := by
  obtain ⟨G, B, env, r, env', ok, e, q⟩ := h
  unfold fOr at e
  cases e1 : f1 env with
  | none => rw [e1] at e; cases e
  | some re =>
    obtain ⟨r1, e1'⟩ := re
    rw [e1] at e
    refine DTr.intro ok e1 (fun x er H1 s => ?_) (fun C d er a H1 s ha => ?_)
    · subst er
      cases x with
      | false =>
        rw [if_neg (fun z => nomatch z)]
        refine DTr.intro s.ok e (fun x er H2 s2 => ?_) (fun C d er a H2 s2 ha => ?_)
        · subst er; exact q H2 (s.trans s2)
        · subst er; exact q a H2 (s.trans s2) ha
      | true => rw [if_pos rfl]; cases e; exact q H1 s
    · subst er; cases e; exact q a H1 s ha
def DW (X : Cx) (g : Cfg) (W : WX) (e : Expr) (f : TF) : Prop := ∃ t, PW X e t ∧ ∀ σ H Q, DTr X.K g W f σ H Q → t σ H Q
theorem DW.dt (h : DW X g W e f1) : DT X g W e f1 := by
  obtain ⟨t, h1, h2⟩ := h
  exact h1.pt.imp h2
theorem dw_and1 (h : DT X g W a f1) : DW X g W (.BoolOp .And [a] pos) f1 := ⟨_, pw_and1 h, fun _ _ _ q => q⟩
theorem dw_or1 (h : DT X g W a f1) : DW X g W (.BoolOp .Or [a] pos) f1 := ⟨_, pw_or1 h, fun _ _ _ q => q⟩
theorem mono_and {t t' u u' : TT} {σ : St} {H : Hp} {Q : Bool → Hp → Prop} (h : tAnd t u σ H Q) (m2 : ∀ σ H Q, u σ H Q → u' σ H Q) (mt : ∀ {σ H} {Q Q' : Bool → Hp → Prop}, (∀ b H', Q b H' → Q' b H') → t σ H Q → t σ H Q') : tAnd t u' σ H Q :=
  mt (fun b H' h => by
    cases b
    · exact h
    · exact m2 _ _ _ h) h
theorem DTr.mono {K : PySem.W.Frag} {σ : St} {H : Hp} {Q Q' : Bool → Hp → Prop} (m : ∀ b H', Q b H' → Q' b H') (h : DTr K g W f1 σ H Q) : DTr K g W f1 σ H Q' := by
  obtain ⟨G, B, env, r, env', ok, e, q⟩ := h
  refine ⟨G, B, env, r, env', ok, e, ?_⟩
  cases r with
  | b x => exact fun H' s => m _ _ (q H' s)
  | exc C d => exact q
theorem dw_and (ha : DT X g W a f1) (hb : DW X g W (.BoolOp .And (b :: rest) pos) f2) : DW X g W (.BoolOp .And (a :: b :: rest) pos) (fAnd f1 f2) := by
  obtain ⟨t, h1, h2⟩ := hb
  refine ⟨_, pw_and ha h1, fun σ H Q h => ?_⟩
  refine DTr.mono (fun c H' hc => ?_) (and_rd h)
  cases c
  · exact hc
  · exact h2 _ _ _ hc
theorem dw_or (ha : DT X g W a f1) (hb : DW X g W (.BoolOp .Or (b :: rest) pos) f2) : DW X g W (.BoolOp .Or (a :: b :: rest) pos) (fOr f1 f2) := by
  obtain ⟨t, h1, h2⟩ := hb
  refine ⟨_, pw_or ha h1, fun σ H Q h => ?_⟩
  refine DTr.mono (fun c H' hc => ?_) (or_rd h)
  cases c
  · exact h2 _ _ _ hc
  · exact hc
theorem de_if (hc : DT X g W c fc) (ha : DE X g W ta a fa) (hb : DE X g W tb b fb) : DE X g W (ta && tb) (.IfExp c a b pos) (fIfE fc fa fb) := (pe_ifExp hc ha hb).imp fun σ H Q h => by
  obtain ⟨G, B, env, r0, env', ok, e, kv, kx⟩ := h.out
  unfold fIfE at e
  cases e1 : fc env with
  | none => rw [e1] at e; cases e
  | some re =>
    obtain ⟨r1, e1'⟩ := re
    rw [e1] at e
    refine DTr.intro ok e1 (fun x er H1 s => ?_) (fun C d er a H1 s ha => ?_)
    · subst er
      have main : ∀ {t : Bool} {f : EF}, ((ta && tb) = true → t = true) → f e1' = some (r0, env') → DEr X.K g W t f σ H1 Q := fun {t f} ht ef => by
        refine DEr.intro s.ok ef (fun v H2 s2 l t2 => ?_) (fun C d er a H2 s2 ha => kx C d er a H2 (s.trans s2) ha)
        exact kv v H2 (s.trans s2) l fun d ed q => (t2 d ed (ht q)).back s.dom
      cases x with
      | true => rw [if_pos rfl]; exact main (fun q => by simp only [Bool.and_eq_true] at q; exact q.1) e
      | false => rw [if_neg (fun z => nomatch z)]; exact main (fun q => by simp only [Bool.and_eq_true] at q; exact q.2) e
    · subst er; cases e; exact kx C d rfl a H1 s ha
end
end GR
/-! GJ -/
set_option linter.all false
set_option maxRecDepth 100000
/-! Bools as values, targets, loops. -/
namespace GR
open PySem L2
variable [TabT]
def fAndE (f1 f2 : EF) : EF := fun env => match f1 env with
  | some (.val (.bl true), e) => f2 e
  | some (.val (.bl false), e) => some (.val (.bl false), e)
  | some (.exc C d, e) => some (.exc C d, e)
  | _ => none
def fOrE (f1 f2 : EF) : EF := fun env => match f1 env with
  | some (.val (.bl false), e) => f2 e
  | some (.val (.bl true), e) => some (.val (.bl true), e)
  | some (.exc C d, e) => some (.exc C d, e)
  | _ => none
def fNotE (f1 : EF) : EF := fun env => match f1 env with
  | some (.val (.bl b), e) => some (.val (.bl !b), e)
  | some (.exc C d, e) => some (.exc C d, e)
  | _ => none
section
variable {X : Cx} {g : Cfg} {W : WX} {tn ta tb : Bool} {a b c e : Expr} {rest : List Expr} {fe fa fb : EF} {pos : Pos}
theorem de_one {op} (h : DE X g W tn a fa) : DE X g W tn (.BoolOp op [a] pos) fa := pe_one h
theorem de_and (ha : DE X g W ta a fa) (hb : DE X g W tb (.BoolOp .And (b :: rest) pos) fb) : DE X g W tb (.BoolOp .And (a :: b :: rest) pos) (fAndE fa fb) := (pe_and ha hb).imp fun σ H Q h => by
  obtain ⟨G, B, env, r0, env', ok, e, kv, kx⟩ := h.out
  unfold fAndE at e
  cases e1 : fa env with
  | none => rw [e1] at e; cases e
  | some re =>
    obtain ⟨r1, e1'⟩ := re
    rw [e1] at e
    refine DEr.intro ok e1 (fun v H1 s l _ => ?_) (fun C d er a H1 s ha => ?_)
    · cases r1 with
      | val d =>
        cases d with
        | bl x =>
          cases l
          refine ⟨x, rfl, ?_⟩
          cases x with
          | true =>
            rw [if_pos rfl]
            exact DEr.intro s.ok e (fun v H2 s2 l t2 => kv v H2 (s.trans s2) l fun d ed q => (t2 d ed q).back s.dom) (fun C d er a H2 s2 ha => kx C d er a H2 (s.trans s2) ha)
          | false =>
            rw [if_neg (fun z => nomatch z)]
            cases e
            exact kv _ H1 s .bl fun _ _ _ => NewV.no fun _ z => nomatch z
        | _ => cases e
      | slot i => cases e
      | exc C d => exact l.elim
    · subst er; cases e; exact kx C d rfl a H1 s ha
theorem de_or (ha : DE X g W ta a fa) (hb : DE X g W tb (.BoolOp .Or (b :: rest) pos) fb) : DE X g W tb (.BoolOp .Or (a :: b :: rest) pos) (fOrE fa fb) := (pe_or ha hb).imp fun σ H Q h => by
  obtain ⟨G, B, env, r0, env', ok, e, kv, kx⟩ := h.out
  unfold fOrE at e
  cases e1 : fa env with
  | none => rw [e1] at e; cases e
  | some re =>
    obtain ⟨r1, e1'⟩ := re
    rw [e1] at e
    refine DEr.intro ok e1 (fun v H1 s l _ => ?_) (fun C d er a H1 s ha => ?_)
    · cases r1 with
      | val d =>
        cases d with
        | bl x =>
          cases l
          refine ⟨x, rfl, ?_⟩
          cases x with
          | false =>
            rw [if_neg (fun z => nomatch z)]
            exact DEr.intro s.ok e (fun v H2 s2 l t2 => kv v H2 (s.trans s2) l fun d ed q => (t2 d ed q).back s.dom) (fun C d er a H2 s2 ha => kx C d er a H2 (s.trans s2) ha)
          | true =>
            rw [if_pos rfl]
            cases e
            exact kv _ H1 s .bl fun _ _ _ => NewV.no fun _ z => nomatch z
        | _ => cases e
      | slot i => cases e
      | exc C d => exact l.elim
    · subst er; cases e; exact kx C d rfl a H1 s ha
theorem de_notE (ha : DE X g W ta a fa) : DE X g W true (.UnaryOp .Not a pos) (fNotE fa) := (pe_not ha).imp fun σ H Q h => by
  obtain ⟨G, B, env, r0, env', ok, e, kv, kx⟩ := h.out
  unfold fNotE at e
  cases e1 : fa env with
  | none => rw [e1] at e; cases e
  | some re =>
    obtain ⟨r1, e1'⟩ := re
    rw [e1] at e
    refine DEr.intro ok e1 (fun v H1 s l _ => ?_) (fun C d er a H1 s ha => ?_)
    · cases r1 with
      | val d =>
        cases d with
        | bl x => cases l; cases e; exact ⟨x, rfl, kv _ H1 s .bl fun _ _ _ => NewV.no fun _ z => nomatch z⟩
        | _ => cases e
      | slot i => cases e
      | exc C d => exact l.elim
    · subst er; cases e; exact kx C d rfl a H1 s ha
end
/-! ### targets -/
abbrev GT := D → Env → Option Env
/-- the slots but ts are as they were -/
def Off (ts : List Nat) (σ σ' : St) : Prop := σ'.length = σ.length ∧ ∀ j : Nat, j ∉ ts → σ'[j]? = σ[j]?
theorem Off.refl {ts : List Nat} {σ : St} : Off ts σ σ := ⟨rfl, fun _ _ => rfl⟩
theorem Off.trans {ts : List Nat} {σ σ' σ2 : St} (a : Off ts σ σ') (b : Off ts σ' σ2) : Off ts σ σ2 := ⟨b.1.trans a.1, fun j h => (b.2 j h).trans (a.2 j h)⟩
def DGr (K : PySem.W.Frag) (g : Cfg) (ts : List Nat) (ft : GT) : TG := fun v σ H Q => ∃ G B env d env', EnvOk K g G B σ H env ∧ (∀ i ∈ ts, ∀ a, B i a) ∧ Rep K H (Zr G g env σ) v d ∧ ft d env = some env' ∧
  ∀ σ', EnvOk K g G B σ' H env' → (∀ a, Zr G g env σ a → Zr G g env' σ' a) → Off ts σ σ' → (∀ j : Nat, j ∉ ts → env'[j]? = env[j]?) → Q σ' H
def DG (X : Cx) (g : Cfg) (ts : List Nat) (t : Expr) (ft : GT) : Prop := PG X t (DGr X.K g ts ft)
def tgName (i : Nat) : GT := fun d env => some (env.set i (some d))
def tgAll : List GT → List D → Env → Option Env
  | [], [], env => some env
  | t :: ts, d :: ds, env => match t d env with
    | some e => tgAll ts ds e
    | none => none
  | _, _, _ => none
def tgTup (ts : List GT) : GT := fun d env => match d with
  | .tup ds => tgAll ts ds env
  | _ => none
def DGsr (K : PySem.W.Frag) (g : Cfg) (tz : List Nat) (ts : List GT) : TGs := fun vs σ H Q => ∃ G B env ds env', EnvOk K g G B σ H env ∧ (∀ i ∈ tz, ∀ a, B i a) ∧ Reps K H (Zr G g env σ) vs ds ∧ tgAll ts ds env = some env' ∧
  ∀ σ', EnvOk K g G B σ' H env' → (∀ a, Zr G g env σ a → Zr G g env' σ' a) → Off tz σ σ' → (∀ j : Nat, j ∉ tz → env'[j]? = env[j]?) → Q σ' H
section
variable {X : Cx} {g : Cfg} {W : WX} {tn ta tb : Bool} {e : Expr} {ft : GT} {fts : List GT} {pos : Pos} {x : Str} {es : List Expr} {ts : List Nat}
theorem dg_name (i : Nat) (ht : i ∈ ts := by decide) (hi : i ∉ g.own := by walk_at "gmem") (hxf : exFree g i = true := by rfl) (hN : X.N.Nodup) (hx : X.N[i]? = some x := by rfl) (hl : Loc X.env.scope x := by first | exact Or.inl rfl | exact Or.inr rfl)
    (hf : X.fn x = true ∨ X.env.scope.names.lookup x = some .local := by first | exact .inl rfl | exact .inr rfl | assumption) : DG X g ts (.Name x pos) (tgName i) :=
  ⟨fun pins s σ H v u Q I rv ⟨G, B, env, d, env', ok, hB, r, e, k⟩ => (pg_name hN hx hl hf).run pins s σ H v u Q I rv (by
    cases e
    have ok' := ok.setB (hB i ht) hi hxf r
    exact k _ ok' (fun a ⟨h, n⟩ => ⟨h, fun q => n ((live_set hi a).mp q)⟩) ⟨List.length_set, fun j hj => set_get_ne fun q => hj (by rw [q]; exact ht)⟩ fun j hj => set_get_ne fun q => hj (by rw [q]; exact ht))⟩
theorem _root_.L2.PG.imp {X : Cx} {e : Expr} {t t' : TG} (h : PG X e t) (m : ∀ v σ H Q, t' v σ H Q → t v σ H Q) : PG X e t' := ⟨fun pins s σ H v u Q I r q => h.run pins s σ H v u Q I r (m v σ H Q q)⟩
theorem _root_.L2.PGs.imp {X : Cx} {e : List Expr} {t t' : TGs} (h : PGs X e t) (m : ∀ v σ H Q, t' v σ H Q → t v σ H Q) : PGs X e t' := ⟨fun pins s σ H v u Q I r q => h.run pins s σ H v u Q I r (m v σ H Q q)⟩
theorem dgs_nil : PGs X [] (DGsr X.K g ts []) := pgs_nil.imp fun vs σ H Q ⟨G, B, env, ds, env', ok, hB, r, e, k⟩ => by
  cases r with
  | nil => cases e; exact ⟨rfl, k σ ok (fun _ h => h) Off.refl fun _ _ => rfl⟩
  | cons _ _ => cases e
theorem dgs_cons (h1 : DG X g ts e ft) (h2 : PGs X es (DGsr X.K g ts fts)) (hs : (assignEach (e :: es) X.env).map (·.2) = assign e X.env :: (assignEach es X.env).map (·.2) := by rfl) : PGs X (e :: es) (DGsr X.K g ts (ft :: fts)) := (pgs_cons h1 h2 hs).imp fun vs σ H Q ⟨G, B, env, ds, env', ok, hB, r, e, k⟩ => by
  cases r with
  | nil => cases e
  | cons rv rr =>
    rename_i v d vs ds hh
    unfold tgAll at e
    cases e1 : ft d env with
    | none => rw [e1] at e; cases e
    | some env1 =>
      rw [e1] at e
      exact ⟨_, _, rfl, G, B, env, d, env1, ok, hB, rv, e1, fun σ' ok' zr off eo => ⟨G, B, env1, ds, env', ok', hB, rr.mono zr, e, fun σ2 ok2 zr2 off2 eo2 => k σ2 ok2 (fun a h => zr2 a (zr a h)) (off.trans off2) fun j hj => (eo2 j hj).trans (eo j hj)⟩⟩
theorem tgAll_len : ∀ {fts : List GT} {ds : List D} {env env' : Env}, tgAll fts ds env = some env' → fts.length = ds.length
  | [], [], _, _, _ => rfl
  | [], _ :: _, _, _, e => by cases e
  | _ :: _, [], _, _, e => by cases e
  | t :: ts, d :: ds, env, env', e => by
    unfold tgAll at e
    cases e1 : t d env with
    | none => rw [e1] at e; cases e
    | some e2 => rw [e1] at e; simp [tgAll_len e]
theorem dg_tup {k : Nat} (hc : X.calm = true) (h : PGs X es (DGsr X.K g ts fts)) (hn : (assignEach es X.env).length = fts.length := by rfl) (hst : (assignEach es X.env).findIdx? (·.1) = none := by rfl) : DG X g ts (.Tuple es k pos) (tgTup fts) := (pg_tup hc h hn hst).imp fun v σ H Q ⟨G, B, env, d, env', ok, hB, r, e, k⟩ => by
  unfold tgTup at e
  split at e
  · rename_i ds
    cases r with
    | tup hh rr => exact ⟨_, _, rfl, hh, by rw [rr.len, tgAll_len e], G, B, env, ds, env', ok, hB, rr, e, k⟩
  · cases e
end
/-- a, b = .. from a value -/
def fAsgT (g : Cfg) (ft : GT) (fe : EF) : SF := fun env => match fe env with
  | some (.exc C d, e) => some (.exc C d, e)
  | some (.val d, e) => match ft d e with
    | some e2 => some (.nx, e2)
    | none => none
  | _ => none
section
variable {X : Cx} {g : Cfg} {W : WX} {tn tn' : Bool} {tg e : Expr} {fe : EF} {ft : GT} {pos : Pos}
theorem ds_asg (ts : List Nat) (he : DE X g W tn' e fe) (hg : DG X g ts tg ft) (hs : swapsWithSole [tg] e pos.line X.env = pure false := by rfl) (hw : swappedStores [tg] e X.env = pure none := by rfl) (h1 : (assignEach [tg] X.env).map (·.2) = [assign tg X.env] := by rfl) : DS X g W tn (.Assign [tg] e pos) (fAsgT g ft fe) :=
  (ps_asg he hg hs hw h1).imp fun Dn σ H ⟨G, env, fl, env', ok, ee, q⟩ => by
  unfold fAsgT at ee
  cases e1 : fe env with
  | none => rw [e1] at ee; cases ee
  | some re =>
    obtain ⟨r, env1⟩ := re
    rw [e1] at ee
    refine DEr.intro ok e1 (fun v H' s l t => ?_) (fun C d er a H' s ha => ?_)
    · cases r with
      | val d =>
        simp only at ee
        cases e2 : ft d env1 with
        | none => simp [e2] at ee
        | some env2 =>
          simp only [e2] at ee
          cases ee
          exact ⟨G, Top, env1, d, _, s.ok, fun _ _ _ => trivial, l, e2, fun σ' ok' _ _ _ => q σ' H' ok'⟩
      | slot i => cases ee
      | exc C d => exact l.elim
    · subst er; cases ee; exact q a σ H' s.ok ha
end
/-! ### what is walked -/
/-- J gives the data ds, one after another, while P holds -/
structure Goes (K : PySem.W.Frag) (J : It) (ds : List D) (P : Hp → Reg → Prop) : Prop where
  go : ∀ i H R, P H R → i < ds.length → J.go i H
  stop : ∀ H R, P H R → J.stop ds.length H
  yld : ∀ i H R x H', (∀ a, H a = none → R a) → P H R → i < ds.length → J.yld i H x H' → (∀ a o, H a = some o → H' a = some o) ∧ ∃ d, ds[i]? = some d ∧ Rep K H' R x d
inductive RI where
  | items (ds : List D) | exc (C : Addr) (d : D)
abbrev IF := Env → Option (RI × Env)
def DIr (K : PySem.W.Frag) (g : Cfg) (W : WX) (f : IF) : TI := fun σ H Q => ∃ G B env r env', EnvOk K g G B σ H env ∧ f env = some (r, env') ∧
  match r with
  | .items ds => ∀ J (h : Hold) H', Stp K g G B σ H env H' env' → h.P H' (Zr G g env' σ) → Goes K J ds h.P → Q J H'
  | .exc C d => ∀ a H', Stp K g G B σ H env H' env' → ExcAt K H' (Zr G g env' σ) a d → W (.ref C) (some a) σ H'
def DI (X : Cx) (g : Cfg) (W : WX) (tg e : Expr) (f : IF) : Prop := PI X tg e (DIr X.K g W f)
/-- a value held: a list, a tuple -/
def holdV (K : PySem.W.Frag) (v : V) (d : D) : Hold where
  P H R := Rep K H R v d
  fr _ _ _ r f := r.fr f
  mono _ _ _ r m := r.mono m
  alloc _ _ r := r.alloc
def holdT : Hold where
  P _ _ := True
  fr _ _ _ _ _ := trivial
  mono _ _ _ _ _ := trivial
  alloc _ _ _ := trivial
theorem goes_list {K : PySem.W.Frag} {a : Addr} {ds : List D} : Goes K (Itl K a) ds (holdV K (.ref a) (.lst ds)).P where
  go i H R r hi := by
    cases r with
    | lst q h r =>
      obtain ⟨v, hv, _⟩ := r.get (List.getElem?_eq_getElem hi)
      exact ⟨_, v, SqL.of h, hv⟩
  stop H R r := by
    cases r with
    | lst q h r => exact ⟨_, SqL.of h, Nat.le_of_eq r.len⟩
  yld i H R x H' _ r hi y := by
    cases r with
    | lst q h r =>
      obtain ⟨rfl, hx⟩ := y
      obtain ⟨d, hd, rd⟩ := r.getV (hx _ (SqL.of h))
      exact ⟨fun _ _ h => h, d, hd, rd.mono fun _ z => z.1⟩
theorem goes_tup {K : PySem.W.Frag} {a : Addr} {ds : List D} : Goes K (Itt K a) ds (holdV K (.ref a) (.tup ds)).P where
  go i H R r hi := by
    cases r with
    | tup h r =>
      obtain ⟨v, hv, _⟩ := r.get (List.getElem?_eq_getElem hi)
      exact ⟨_, v, h, hv⟩
  stop H R r := by
    cases r with
    | tup h r => exact ⟨_, h, Nat.le_of_eq r.len⟩
  yld i H R x H' _ r hi y := by
    cases r with
    | tup h r =>
      obtain ⟨rfl, hx⟩ := y
      obtain ⟨d, hd, rd⟩ := r.getV (hx _ h)
      exact ⟨fun _ _ h => h, d, hd, rd⟩
def rngD (lo : Int) (n : Nat) : List D := (List.range n).map fun k => D.int (lo + (k : Nat))
theorem goes_range {K : PySem.W.Frag} {lo : Int} {n : Nat} : Goes K (Itr lo n) (rngD lo n) holdT.P where
  go i H R _ hi := by
    show i < n
    simpa [rngD] using hi
  stop H R _ := by
    show n ≤ (rngD lo n).length
    simp [rngD]
  yld i H R x H' _ _ hi y := by
    obtain ⟨rfl, rfl⟩ := y
    have hi' : i < n := by simpa [rngD] using hi
    exact ⟨fun _ _ h => h, .int (lo + (i : Nat)), by simp [rngD, hi'], .int⟩
/-- enumerate of a list -/
def enumD (ds : List D) : List D := ds.mapIdx fun k d => .tup [.int (k : Nat), d]
theorem goes_enum {K : PySem.W.Frag} {a : Addr} {ds : List D} : Goes K (Ite K a) (enumD ds) (holdV K (.ref a) (.lst ds)).P where
  go i H R r hi := by
    have hi' : i < ds.length := by simpa [enumD] using hi
    cases r with
    | lst q h r =>
      obtain ⟨v, hv, _⟩ := r.get (List.getElem?_eq_getElem hi')
      exact ⟨_, v, SqL.of h, hv⟩
  stop H R r := by
    cases r with
    | lst q h r => exact ⟨_, SqL.of h, by simp [enumD, r.len]⟩
  yld i H R x H' hf r hi y := by
    cases r with
    | lst q h r =>
      obtain ⟨T, y, rfl, hT, rfl, hx⟩ := y
      obtain ⟨d, hd, rd⟩ := r.getV (hx _ (SqL.of h))
      refine ⟨upd_same_of hT, .tup [.int (i : Nat), d], by simp [enumD, hd], ?_⟩
      exact Rep.newTup hT (.cons .int (.cons (rd.mono fun _ z => z.1) .nil))
end GR
/-! GK -/
set_option linter.all false
set_option maxRecDepth 100000
/-! for, while. -/
namespace GR
open PySem L2
variable [TabT]
section
variable {K : PySem.W.Frag} {g : Cfg} {G : Gnd} {B B' : Nat → Reg} {H H' H1 H2 : Hp} {σ σ' : St} {env env' : Env} {p : Addr} {d : D} {v : V}
theorem EnvOk.dropL : ∀ {wl : List Nat} {env : Env}, EnvOk K g G B σ H env → (∀ i ∈ wl, i ∉ g.io) → EnvOk K g G B σ H (wipeE env wl)
  | [], _, ok, _ => ok
  | i :: is, env, ok, h => by
    have := EnvOk.dropL (wl := is) (env := env.set i none) (ok.drop i (h i List.mem_cons_self)) fun j hj => h j (List.mem_cons_of_mem _ hj)
    exact this
def Gnd.with (G : Gnd) (h : Hold) : Gnd := { G with hs := h :: G.hs }
theorem EnvOk.push (ok : EnvOk K g G B σ H env) {h : Hold} (p : h.P H (fun a => Zr G g env σ a ∧ B 16777216 a)) : EnvOk K g (G.with h) B σ H env where
  len := ok.len
  val := ok.val
  own := ok.own
  io := ok.io
  ioall := ok.ioall
  apart := ok.apart
  base := ok.base
  tab := ok.tab
  dom := ok.dom
  ap := ok.ap
  hold := fun h' m => by
    rcases m with m | m
    · rcases List.mem_cons.mp m with rfl | m
      · exact p
      · exact ok.hold h' (.inl m)
    · exact ok.hold h' (.inr m)
  ex := ok.ex
theorem EnvOk.pop {h : Hold} (ok : EnvOk K g (G.with h) B σ H env) : EnvOk K g G B σ H env where
  len := ok.len
  val := ok.val
  own := ok.own
  io := ok.io
  ioall := ok.ioall
  apart := ok.apart
  base := ok.base
  tab := ok.tab
  dom := ok.dom
  ap := ok.ap
  hold := fun h' m => ok.hold h' (m.imp (List.mem_cons_of_mem _) id)
  ex := ok.ex
end
/-! ### for -/
def goFor (wl : List Nat) (ft : GT) (body : SF) : List D → Env → Option (Fl × Env)
  | [], env => some (.nx, env)
  | d :: ds, env => match ft d env with
    | none => none
    | some e1 => match body e1 with
      | some (.nx, e2) => goFor wl ft body ds (wipeE e2 wl)
      | some (.cnt, e2) => goFor wl ft body ds (wipeE e2 wl)
      | some (.brk, e2) => some (.nx, e2)
      | some (fl, e2) => some (fl, e2)
      | none => none
def fFor (wl : List Nat) (fi : IF) (ft : GT) (body : SF) : SF := fun env => match fi env with
  | some (.exc C d, e) => some (.exc C d, e)
  | some (.items ds, e) => goFor wl ft body ds (wipeE e wl)
  | none => none
theorem drop_cons {α : Type} {l : List α} {i : Nat} {d : α} (h : l[i]? = some d) : l.drop i = d :: l.drop (i + 1) := by
  obtain ⟨hi, e⟩ := List.getElem?_eq_some_iff.mp h
  rw [List.drop_eq_getElem_cons hi, e]
theorem SEnd.pop {K : PySem.W.Frag} {g : Cfg} {W : WX} {tn : Bool} {G : Gnd} {Dn : Ends} {env' : Env} {fl : Fl} {h : Hold} (q : SEnd K g W tn G Dn env' fl) : SEnd K g W tn (G.with h) Dn env' fl := by
  cases fl with
  | nx => exact fun σ' H' ok => q σ' H' ok.pop
  | brk => exact fun σ' H' ok => q σ' H' ok.pop
  | cnt => exact fun σ' H' ok => q σ' H' ok.pop
  | ret d => exact fun v σ' H' ok r t => q v σ' H' ok.pop r t
  | exc C d => exact fun a σ' H' ok r => q a σ' H' ok.pop r
section
variable {X : Cx} {g : Cfg} {W : WX} {tn : Bool} {tg iter : Expr} {body : List Stmt} {fi : IF} {ft : GT} {sf : SF} {pos : Pos} {fc : TF}
theorem ds_for (wl ts : List Nat) (hp : PassesOwn (model X.prog X.w) X.A X.env X.xe) (hc : X.calm = true) (hi : DI X g W tg iter fi) (hg : DG X g ts tg ft) (hb : DSs X g W tn body sf) (hw : ∀ i ∈ wl, i ∉ g.io := by walk_at "gmem") (hs : ∀ x, foldedSetIterable iter X.env x = pure x := by intro _; rfl) :
    DS X g W tn (.For tg iter body [] pos) (fFor wl fi ft sf) := (ps_for hp hc hi hg hb hs).imp fun Dn σ H ⟨G, env, fl, env', ok, e, q⟩ => by
  unfold fFor at e
  cases e1 : fi env with
  | none => rw [e1] at e; cases e
  | some re =>
    obtain ⟨r, env1⟩ := re
    rw [e1] at e
    refine ⟨G, Top, env, r, env1, ok, e1, ?_⟩
    cases r with
    | exc C d => cases e; exact fun a H' s ha => q a σ H' s.ok ha
    | items ds =>
      intro J h H1 s hP go
      simp only at e
      have okw : EnvOk X.K g G Top σ H1 (wipeE env1 wl) := s.ok.dropL hw
      have zr0 : ∀ a, Zr G g env1 σ a → Zr G g (wipeE env1 wl) σ a := by
        have : ∀ {wl : List Nat} {env : Env} (a : Addr), Live g (wipeE env wl) σ a → Live g env σ a := by
          intro wl
          induction wl with
          | nil => intro env a l; exact l
          | cons i is ih =>
            intro env a l
            obtain ⟨j, d, h1, h2, h3⟩ := ih a l
            exact ⟨j, d, h1, (set_none_get h2).1, h3⟩
        exact fun a ⟨x, n⟩ => ⟨x, fun z => n (this a z)⟩
      have ok0 : EnvOk X.K g (G.with h) Top σ H1 (wipeE env1 wl) := okw.push (h.mono _ _ _ hP fun a x => ⟨zr0 a x, trivial⟩)
      refine ⟨fun i m σ H => m = ds.length - i ∧ i ≤ ds.length ∧ ∃ env0, EnvOk X.K g (G.with h) Top σ H env0 ∧ goFor wl ft sf (ds.drop i) env0 = some (fl, env'), ⟨_, rfl, Nat.zero_le _, _, ok0, by simpa using e⟩, ?_⟩
      rintro i m σ2 H2 ⟨rfl, hle, env0, ok2, e2⟩
      have hP2 := ok2.hold h (.inl List.mem_cons_self)
      by_cases hi : i < ds.length
      · refine .inr ⟨go.go i H2 _ hP2 hi, fun σ' H' => ∃ env0, EnvOk X.K g (G.with h) Top σ' H' env0 ∧ goFor wl ft sf (ds.drop (i + 1)) env0 = some (fl, env'), fun σ' H' ⟨env0, h1, h2⟩ => ⟨ds.length - (i + 1), by omega, rfl, by omega, env0, h1, h2⟩, ?_⟩
        intro x H3 hy
        obtain ⟨ex, d, hd, rd⟩ := go.yld i H2 _ x H3 (fun a ha => ⟨ok2.fresh ha, trivial⟩) hP2 hi hy
        rw [drop_cons hd] at e2
        unfold goFor at e2
        cases e3 : ft d env0 with
        | none => rw [e3] at e2; cases e2
        | some env3 =>
          rw [e3] at e2
          simp only at e2
          refine ⟨G.with h, Top, env0, d, env3, ok2.step ex, fun _ _ _ => trivial, rd.mono fun a x => x.1, e3, fun σ4 ok4 _ _ _ => ?_⟩
          cases e4 : sf env3 with
          | none => rw [e4] at e2; cases e2
          | some re4 =>
            obtain ⟨fl4, env4⟩ := re4
            rw [e4] at e2
            refine ⟨G.with h, env3, fl4, env4, ok4, e4, ?_⟩
            cases fl4 with
            | nx => exact fun σ5 H5 ok5 => ⟨_, ok5.dropL hw, e2⟩
            | cnt => exact fun σ5 H5 ok5 => ⟨_, ok5.dropL hw, e2⟩
            | brk => cases e2; exact fun σ5 H5 ok5 => q σ5 H5 ok5.pop
            | ret d => cases e2; exact SEnd.pop (fl := .ret d) q
            | exc C d => cases e2; exact SEnd.pop (fl := .exc C d) q
      · have : i = ds.length := by omega
        subst this
        rw [List.drop_length] at e2
        cases e2
        exact .inl ⟨go.stop H2 _ hP2, q σ2 H2 ok2.pop⟩
/-! ### while -/
def goWhile (wl : List Nat) (fc : TF) (body : SF) : Nat → Env → Option (Fl × Env)
  | 0, _ => none
  | n + 1, env => match fc env with
    | some (.b false, e) => some (.nx, e)
    | some (.b true, e) => match body e with
      | some (.nx, e2) => goWhile wl fc body n (wipeE e2 wl)
      | some (.cnt, e2) => goWhile wl fc body n (wipeE e2 wl)
      | some (.brk, e2) => some (.nx, e2)
      | some (fl, e2) => some (fl, e2)
      | none => none
    | some (.exc C d, e) => some (.exc C d, e)
    | none => none
/-- fu: turns that are enough -/
def fWhile (wl : List Nat) (fu : Env → Nat) (fc : TF) (body : SF) : SF := fun env => goWhile wl fc body (fu env) (wipeE env wl)
theorem ds_while (wl : List Nat) (fu : Env → Nat) {c : Expr} (hp : PassesOwn (model X.prog X.w) X.A X.env X.xe) (hc : DT X g W c fc) (hb : DSs X g W tn body sf) (hw : ∀ i ∈ wl, i ∉ g.io := by walk_at "gmem") :
    DS X g W tn (.While c body [] pos) (fWhile wl fu fc sf) := (ps_while hp hc hb).imp fun Dn σ H ⟨G, env, fl, env', ok, e, q⟩ => by
  refine ⟨fun m σ H => ∃ env0, EnvOk X.K g G Top σ H env0 ∧ goWhile wl fc sf m env0 = some (fl, env'), ⟨_, _, ok.dropL hw, e⟩, ?_⟩
  rintro m σ2 H2 ⟨env0, ok2, e2⟩
  cases m with
  | zero => cases e2
  | succ m =>
    unfold goWhile at e2
    cases e1 : fc env0 with
    | none => rw [e1] at e2; cases e2
    | some re =>
      obtain ⟨r, env1⟩ := re
      rw [e1] at e2
      refine DTr.intro ok2 e1 (fun x er H3 s => ?_) (fun C d er a H3 s ha => ?_)
      · subst er
        cases x with
        | false => rw [if_neg (fun z => nomatch z)]; cases e2; exact q σ2 H3 s.ok
        | true =>
          rw [if_pos rfl]
          refine ⟨fun σ' H' => ∃ env0, EnvOk X.K g G Top σ' H' env0 ∧ goWhile wl fc sf m env0 = some (fl, env'), fun σ' H' h => ⟨m, Nat.lt_succ_self m, h⟩, ?_⟩
          simp only at e2
          cases e4 : sf env1 with
          | none => rw [e4] at e2; cases e2
          | some re4 =>
            obtain ⟨fl4, env4⟩ := re4
            rw [e4] at e2
            refine ⟨G, env1, fl4, env4, s.ok, e4, ?_⟩
            cases fl4 with
            | nx => exact fun σ5 H5 ok5 => ⟨_, ok5.dropL hw, e2⟩
            | cnt => exact fun σ5 H5 ok5 => ⟨_, ok5.dropL hw, e2⟩
            | brk => cases e2; exact q
            | ret d => cases e2; exact q
            | exc C d => cases e2; exact q
      · subst er; cases e2; exact q a σ2 H3 s.ok ha
/-! ### what is walked -/
def fItems (gg : D → Option (List D)) (fe : EF) : IF := fun env => match fe env with
  | some (.exc C d, e) => some (.exc C d, e)
  | some (.val d, e) => match gg d with
    | some ds => some (.items ds, e)
    | none => none
  | _ => none
def lstItems : D → Option (List D)
  | .lst ds => some ds
  | _ => none
def tupItems : D → Option (List D)
  | .tup ds => some ds
  | _ => none
theorem items_rd {K : PySem.W.Frag} {gg : D → Option (List D)} {fe : EF} {σ : St} {H : Hp} {Q : It → Hp → Prop} {R : V → Hp → Prop} (h : DIr K g W (fItems gg fe) σ H Q)
    (k : ∀ v d ds H' Z, Rep K H' Z v d → gg d = some ds → (∀ J (h : Hold), h.P H' Z → Goes K J ds h.P → Q J H') → R v H') : DEr K g W tn fe σ H R := by
  obtain ⟨G, B, env, r, env', ok, e, q⟩ := h
  unfold fItems at e
  cases e1 : fe env with
  | none => rw [e1] at e; cases e
  | some re =>
    obtain ⟨r1, env1⟩ := re
    rw [e1] at e
    refine DEr.intro ok e1 (fun v H1 s l _ => ?_) (fun C d er a H1 s ha => ?_)
    · cases r1 with
      | val d =>
        simp only at e
        cases e2 : gg d with
        | none => simp [e2] at e
        | some ds =>
          simp only [e2] at e
          cases e
          exact k v d ds H1 _ l e2 fun J h hP go => q J h H1 s hP go
      | slot i => cases e
      | exc C d => exact l.elim
    · subst er; cases e; exact q a H1 s ha
theorem di_list {tn' : Bool} {l : Expr} {fe : EF} (hl : DE X g W tn' l fe) : DI X g W tg l (fItems lstItems fe) :=
  ⟨fun pins s σ H R I h => (pi_list hl).run pins s σ H R I (items_rd h fun v d ds H' Z r e k => by
    cases d with
    | lst ds' =>
      cases e
      cases r with
      | lst q hh rr => exact ⟨_, rfl, ⟨_, SqL.of hh⟩, k _ (holdV X.K _ (.lst ds)) (.lst q hh rr) goes_list⟩
    | _ => cases e)⟩
theorem di_tup {tn' : Bool} {l : Expr} {fe : EF} (hl : DE X g W tn' l fe) : DI X g W tg l (fItems tupItems fe) :=
  ⟨fun pins s σ H R I h => (pi_tup hl).run pins s σ H R I (items_rd h fun v d ds H' Z r e k => by
    cases d with
    | tup ds' =>
      cases e
      cases r with
      | tup hh rr => exact ⟨_, rfl, ⟨_, hh⟩, k _ (holdV X.K _ (.tup ds)) (.tup hh rr) goes_tup⟩
    | _ => cases e)⟩
/-- a walk over what arguments tell -/
def fItemsA (gg : List D → Option (List D)) (fa : AF) : IF := fun env => match fa env with
  | some (.exc C d, e) => some (.exc C d, e)
  | some (.vals rs, e) => match mvs ⟨[], [], [], []⟩ rs [] with
    | some (ds, _) => match gg ds with
      | some is => some (.items is, e)
      | none => none
    | none => none
  | none => none
theorem mvs_nil : ∀ {rs : List R1} {ds : List D} {e : Env}, mvs ⟨[], [], [], []⟩ rs [] = some (ds, e) → rs = ds.map R1.val
  | [], ds, e, h => by cases h; rfl
  | .val d :: rs, ds, e, h => by
    simp only [mvs, mv] at h
    cases e2 : mvs ⟨[], [], [], []⟩ rs [] with
    | none => simp [e2] at h
    | some x =>
      simp only [e2] at h
      cases h
      rw [mvs_nil (rs := rs) (ds := x.1) (e := x.2) e2]; rfl
  | .slot i :: rs, ds, e, h => by simp [mvs, mv] at h
  | .exc C d :: rs, ds, e, h => by simp [mvs, mv] at h
theorem itemsA_rd {K : PySem.W.Frag} {gg : List D → Option (List D)} {fa : AF} {σ : St} {H : Hp} {Q : It → Hp → Prop} {R : List V → Hp → Prop} (h : DIr K g W (fItemsA gg fa) σ H Q)
    (k : ∀ vs ds is H' Z, Reps K H' Z vs ds → gg ds = some is → (∀ J (h : Hold), h.P H' Z → Goes K J is h.P → Q J H') → R vs H') : DAr K g W fa σ H R := by
  obtain ⟨G, B, env, r, env', ok, e, q⟩ := h
  unfold fItemsA at e
  cases e1 : fa env with
  | none => rw [e1] at e; cases e
  | some re =>
    obtain ⟨r1, env1⟩ := re
    rw [e1] at e
    refine DAr.intro ok e1 (fun rs er vs H1 s ls => ?_) (fun C d er a H1 s ha => ?_)
    · subst er
      simp only at e
      cases e2 : mvs ⟨[], [], [], []⟩ rs [] with
      | none => simp [e2] at e
      | some x =>
        obtain ⟨ds, e3⟩ := x
        simp only [e2] at e
        cases e4 : gg ds with
        | none => simp [e4] at e
        | some is =>
          simp only [e4] at e
          cases e
          have er := mvs_nil e2
          subst er
          have : ∀ {vs : List V} {ds : List D}, Paired (Late K g G σ H1 env') vs (ds.map R1.val) → Reps K H1 (Zr G g env' σ) vs ds := by
            intro vs
            induction vs with
            | nil => intro ds h; cases ds with
              | nil => exact .nil
              | cons _ _ => cases h
            | cons v vs ih => intro ds h; cases ds with
              | nil => cases h
              | cons d ds => cases h with
                | cons a b => exact .cons a (ih b)
          exact k vs ds is H1 _ (this ls) e4 fun J h hP go => q J h H1 s hP go
    · subst er; cases e; exact q a H1 s ha
def rng1 : List D → Option (List D)
  | [.int j] => if -(2 ^ 62) ≤ j ∧ j < 2 ^ 62 then some (rngD 0 j.toNat) else none
  | _ => none
def rng2 : List D → Option (List D)
  | [.int i, .int j] => if -(2 ^ 62) ≤ i ∧ i < 2 ^ 62 ∧ -(2 ^ 62) ≤ j ∧ j < 2 ^ 62 then some (rngD i (j - i).toNat) else none
  | _ => none
theorem di_range1 {a : Expr} {fa : AF} {p : Pos} (hg : Gl X "range") (hm : X.mg "range" = none) (ha : DA X g W [a] fa) (hs : starEach [a] X.env = [(false, eval a X.env)] := by rfl) : DI X g W tg (.Call (.Name "range" p) [a] [] pos) (fItemsA rng1 fa) :=
  ⟨fun pins s σ H R I h => (pi_range1 hg hm ha hs).run pins s σ H R I (itemsA_rd h fun vs ds is H' Z r e k => by
    unfold rng1 at e
    split at e
    · rename_i j
      split at e
      · rename_i hj
        cases e
        cases r with
        | cons r1 r2 =>
          cases r2; cases r1
          exact ⟨j, rfl, hj.1, hj.2, k _ holdT trivial goes_range⟩
      · cases e
    · cases e)⟩
theorem di_range2 {a b : Expr} {fa : AF} {p : Pos} (hg : Gl X "range") (hm : X.mg "range" = none) (ha : DA X g W [a, b] fa) (hs : starEach [a, b] X.env = [(false, eval a X.env), (false, eval b X.env)] := by rfl) (hs2 : starEach [b] X.env = [(false, eval b X.env)] := by rfl) : DI X g W tg (.Call (.Name "range" p) [a, b] [] pos) (fItemsA rng2 fa) :=
  ⟨fun pins s σ H R I h => (pi_range2 hg hm ha hs hs2).run pins s σ H R I (itemsA_rd h fun vs ds is H' Z r e k => by
    unfold rng2 at e
    split at e
    · rename_i i j
      split at e
      · rename_i hj
        cases e
        cases r with
        | cons r1 r2 =>
          cases r2 with
          | cons r2 r3 =>
            cases r3; cases r1; cases r2
            exact ⟨i, j, rfl, hj, k _ holdT trivial goes_range⟩
      · cases e
    · cases e)⟩
def enumItems : List D → Option (List D)
  | [.lst ds] => some (enumD ds)
  | _ => none
theorem di_enum {e : Expr} {fa : AF} {p tpos : Pos} {elts : List Expr} {kk : Nat} (hg : Gl X "enumerate") (hm : X.mg "enumerate" = none) (ha : DA X g W [e] fa) (hs : starEach [e] X.env = [(false, eval e X.env)] := by rfl) : DI X g W (.Tuple elts kk tpos) (.Call (.Name "enumerate" p) [e] [] pos) (fItemsA enumItems fa) :=
  ⟨fun pins s σ H R I h => (pi_enum hg hm ha hs).run pins s σ H R I (itemsA_rd h fun vs ds is H' Z r e k => by
    unfold enumItems at e
    split at e
    · rename_i ds
      cases e
      cases r with
      | cons r1 r2 =>
        cases r2
        cases r1 with
        | lst q hh rr => exact ⟨_, _, rfl, SqL.of hh, k _ (holdV X.K _ (.lst ds)) (.lst q hh rr) goes_enum⟩
    · cases e)⟩
end
end GR
/-! GL -/
set_option linter.all false
set_option maxRecDepth 100000
/-! Operators and built-ins on data. -/
namespace GR
open PySem L2
variable [TabT]
/-! ### ints, texts, lists -/
def gAdd : D → D → Option D
  | .int a, .int b => some (.int (a + b))
  | .str a, .str b => if a.length + b.length ≤ 16777216 then some (.str (a ++ b)) else none
  | .lst a, .lst b => if a.length + b.length ≤ 16777216 then some (.lst (a ++ b)) else none
  | _, _ => none
def gSub : D → D → Option D
  | .int a, .int b => some (.int (a - b))
  | _, _ => none
def gMul : D → D → Option D
  | .int a, .int b => if a.natAbs.log2 + b.natAbs.log2 < 1000000 then some (.int (a * b)) else none
  | .lst a, .int k => if -(2 ^ 63) ≤ k ∧ k < 2 ^ 63 ∧ a.length * k.toNat ≤ 16777216 then some (.lst (List.replicate k.toNat a).flatten) else none
  | _, _ => none
def gMod : D → D → Option D
  | .int a, .int b => if 0 < b then some (.int (a % b)) else none
  | _, _ => none
def gDiv : D → D → Option D
  | .int a, .int b => if 0 < b ∧ b.natAbs.log2 < 9000 then some (.int (a / b)) else none
  | _, _ => none
def gPow : D → D → Option D
  | .int a, .int b => if 0 ≤ b ∧ b ≤ 1000000 ∧ a.natAbs < 2 ^ 64 then some (.int (a ^ b.toNat)) else none
  | _, _ => none
def gLt : D → D → Option D
  | .int a, .int b => some (.bl (decide (a < b)))
  | _, _ => none
def gLe : D → D → Option D
  | .int a, .int b => some (.bl (decide (a ≤ b)))
  | _, _ => none
def gGt : D → D → Option D
  | .int a, .int b => some (.bl (decide (b < a)))
  | _, _ => none
def gGe : D → D → Option D
  | .int a, .int b => some (.bl (decide (b ≤ a)))
  | _, _ => none
def gNeg : D → Option D
  | .int a => some (.int (-a))
  | _ => none
section
variable {K : PySem.W.Frag}
theorem nv {H H' : Hp} {v : V} (h : ∀ p, v ≠ .ref p := by intro p q; cases q) : true = true → NewV H H' v := fun _ => NewV.no h
def rAdd3 : R2 := fun x y H Q => (rI0 fun i j => V.int (i + j)) x y H Q ∨ (∃ i j, x = .str i ∧ y = .str j ∧ i.length + j.length ≤ sizeLine ∧ Q (.str (i ++ j)) H) ∨ rCat x y H Q
theorem op_add3 {X : Cx} : OpR X (binaryOp .Add) rAdd3 := op_add.or (op_add_str.or op_cat)
theorem o2_add : Op2 K rAdd3 true gAdd := fun H R L x y dx dy d Q rx ry hf e k => by
  unfold gAdd at e
  split at e
  · cases e; exact .inl ⟨_, _, rx.int, ry.int, k _ H (fun _ _ h => h) .int nv⟩
  · split at e
    · rename_i hl
      cases e; exact .inr (.inl ⟨_, _, rx.str, ry.str, by rw [sizeLine_eq]; exact hl, k _ H (fun _ _ h => h) .str nv⟩)
    · cases e
  · split at e
    · rename_i hl
      cases e
      obtain ⟨p, vs, rfl, hp, r1⟩ := rx.lst
      obtain ⟨q, ws, rfl, hq, r2⟩ := ry.lst
      refine .inr (.inr ⟨p, q, vs, ws, rfl, rfl, hp, hq, by rw [r1.len, r2.len, sizeLine_eq]; exact hl, fun n hn => ?_⟩)
      exact k _ _ (upd_same_of hn) (Rep.newLst hn (hf n hn) (r1.append r2)) fun _ => NewV.upd hn fun _ _ z => nomatch z
    · cases e
  · cases e
theorem o2_sub : Op2 K (rI0 fun i j => .int (i - j)) true gSub := fun H R L x y dx dy d Q rx ry hf e k => by
  unfold gSub at e
  split at e
  · cases e; exact ⟨_, _, rx.int, ry.int, k _ H (fun _ _ h => h) .int nv⟩
  · cases e
def rMul2 : R2 := fun x y H Q => (rI CMulW fun i j => V.int (i * j)) x y H Q ∨ rRep x y H Q
theorem op_mul2 {X : Cx} : OpR X (binaryOp .Mult) rMul2 := op_mulW.or op_rep
theorem reps_rep {H : Hp} {R : Reg} {vs : List V} {ds : List D} (r : Reps K H R vs ds) : ∀ n : Nat, Reps K H R (List.replicate n vs).flatten (List.replicate n ds).flatten
  | 0 => .nil
  | n + 1 => by
    rw [List.replicate_succ, List.replicate_succ, List.flatten_cons, List.flatten_cons]
    exact r.append (reps_rep r n)
theorem o2_mul : Op2 K rMul2 true gMul := fun H R L x y dx dy d Q rx ry hf e k => by
  unfold gMul at e
  split at e
  · split at e
    · rename_i hc
      cases e; exact .inl ⟨_, _, rx.int, ry.int, hc, k _ H (fun _ _ h => h) .int nv⟩
    · cases e
  · split at e
    · rename_i hc
      cases e
      obtain ⟨p, vs, rfl, hp, r1⟩ := rx.lst
      refine .inr ⟨p, _, vs, rfl, ry.int, hp, hc.1, hc.2.1, by rw [r1.len, sizeLine_eq]; exact hc.2.2, fun n hn => ?_⟩
      exact k _ _ (upd_same_of hn) (Rep.newLst hn (hf n hn) (reps_rep r1 _)) fun _ => NewV.upd hn fun _ _ z => nomatch z
    · cases e
  · cases e
theorem o2_mod : Op2 K (rI (fun _ j => 0 < j) fun i j => .int (i % j)) true gMod := fun H R L x y dx dy d Q rx ry hf e k => by
  unfold gMod at e
  split at e
  · split at e
    · rename_i hc
      cases e; exact ⟨_, _, rx.int, ry.int, hc, k _ H (fun _ _ h => h) .int nv⟩
    · cases e
  · cases e
theorem o2_div : Op2 K (rI CDivW fun i j => .int (i / j)) true gDiv := fun H R L x y dx dy d Q rx ry hf e k => by
  unfold gDiv at e
  split at e
  · split at e
    · rename_i hc
      cases e; exact ⟨_, _, rx.int, ry.int, hc, k _ H (fun _ _ h => h) .int nv⟩
    · cases e
  · cases e
theorem o2_pow : Op2 K (rI CPow fun i j => .int (i ^ j.toNat)) true gPow := fun H R L x y dx dy d Q rx ry hf e k => by
  unfold gPow at e
  split at e
  · split at e
    · rename_i hc
      cases e; exact ⟨_, _, rx.int, ry.int, hc, k _ H (fun _ _ h => h) .int nv⟩
    · cases e
  · cases e
theorem o2_lt : Op2 K (rI0 fun i j => .bl (decide (i < j))) true gLt := fun H R L x y dx dy d Q rx ry hf e k => by
  unfold gLt at e
  split at e
  · cases e; exact ⟨_, _, rx.int, ry.int, k _ H (fun _ _ h => h) .bl nv⟩
  · cases e
theorem o2_le : Op2 K (rI0 fun i j => .bl (decide (i ≤ j))) true gLe := fun H R L x y dx dy d Q rx ry hf e k => by
  unfold gLe at e
  split at e
  · cases e; exact ⟨_, _, rx.int, ry.int, k _ H (fun _ _ h => h) .bl nv⟩
  · cases e
theorem o2_gt : Op2 K (rI0 fun i j => .bl (decide (j < i))) true gGt := fun H R L x y dx dy d Q rx ry hf e k => by
  unfold gGt at e
  split at e
  · cases e; exact ⟨_, _, rx.int, ry.int, k _ H (fun _ _ h => h) .bl nv⟩
  · cases e
theorem o2_ge : Op2 K (rI0 fun i j => .bl (decide (j ≤ i))) true gGe := fun H R L x y dx dy d Q rx ry hf e k => by
  unfold gGe at e
  split at e
  · cases e; exact ⟨_, _, rx.int, ry.int, k _ H (fun _ _ h => h) .bl nv⟩
  · cases e
theorem o1_neg : Op1 K (rU fun i => .int (-i)) true gNeg := fun H R L x dx d Q rx hf e k => by
  unfold gNeg at e
  split at e
  · cases e; exact ⟨_, rx.int, k _ H (fun _ _ h => h) .int nv⟩
  · cases e
/-! ### data as such: ==, repr -/
mutual
def D.py : D → PyData
  | .bl b => .bool b
  | .int i => .int i
  | .str x => .str x
  | .tup ds => .tuple (D.pys ds)
  | .lst ds => .list (D.pys ds)
  | .frl is => .list (is.map PyData.int)
  | _ => .none
def D.pys : List D → List PyData
  | [] => []
  | d :: ds => d.py :: D.pys ds
end
/-- plain data, at most n deep -/
def D.dat : Nat → D → Bool
  | _, .non => true
  | _, .bl _ => true
  | _, .int _ => true
  | _, .str x => PyData.strOk x
  | n + 1, .tup ds => ds.all (D.dat n)
  | n + 1, .lst ds => ds.all (D.dat n)
  | _, _ => false
theorem py_lay : ∀ (n : Nat) (d : D), d.dat n = true → d.py.canLay0 = true ∧ d.py.depth ≤ n
  | n, .non, _ => by cases n <;> exact ⟨rfl, Nat.zero_le _⟩
  | n, .bl _, _ => by cases n <;> exact ⟨rfl, Nat.zero_le _⟩
  | n, .int _, _ => by cases n <;> exact ⟨rfl, Nat.zero_le _⟩
  | n, .str x, h => by
    have h' : PyData.strOk x = true := by cases n <;> exact h
    exact ⟨h', Nat.zero_le _⟩
  | n + 1, .tup ds, h => by
    have hs : ∀ ds : List D, ds.all (D.dat n) = true → PyData.canLayAll0 (D.pys ds) = true ∧ PyData.depthAll (D.pys ds) ≤ n := by
      intro ds
      induction ds with
      | nil => intro _; exact ⟨rfl, Nat.zero_le _⟩
      | cons d ds ih =>
        intro h
        simp only [List.all_cons, Bool.and_eq_true] at h
        obtain ⟨a, b⟩ := py_lay n d h.1
        obtain ⟨a', b'⟩ := ih h.2
        refine ⟨by simp only [D.pys, PyData.canLayAll0, a, a', Bool.and_self], ?_⟩
        simp only [D.pys, PyData.depthAll]
        omega
    obtain ⟨a, b⟩ := hs ds h
    refine ⟨a, ?_⟩
    simp only [D.py, PyData.depth]
    omega
  | n + 1, .lst ds, h => by
    have hs : ∀ ds : List D, ds.all (D.dat n) = true → PyData.canLayAll0 (D.pys ds) = true ∧ PyData.depthAll (D.pys ds) ≤ n := by
      intro ds
      induction ds with
      | nil => intro _; exact ⟨rfl, Nat.zero_le _⟩
      | cons d ds ih =>
        intro h
        simp only [List.all_cons, Bool.and_eq_true] at h
        obtain ⟨a, b⟩ := py_lay n d h.1
        obtain ⟨a', b'⟩ := ih h.2
        refine ⟨by simp only [D.pys, PyData.canLayAll0, a, a', Bool.and_self], ?_⟩
        simp only [D.pys, PyData.depthAll]
        omega
    obtain ⟨a, b⟩ := hs ds h
    refine ⟨a, ?_⟩
    simp only [D.py, PyData.depth]
    omega
  | 0, .tup _, h => by cases h
  | 0, .lst _, h => by cases h
  | n, .ty _, h => by cases n <;> cases h
  | n, .gl _, h => by cases n <;> cases h
  | n, .frl _, h => by cases n <;> cases h
  | n, .dK _, h => by cases n <;> cases h
  | n, .ins _ _, h => by cases n <;> cases h
  | n, .exc _ _, h => by cases n <;> cases h
theorem reads_of {X : Cx} {pins : List (Addr × Obj)} {σ : St} {H : Hp} {s : Shared} (I : Inv X pins σ H s) : ∀ (n : Nat) (d : D) {R L : Reg} {v : V} {u : Value}, RepB X.K H R L v d → RelV v u → d.dat n = true → ∃ as, Reads s.heap u d.py as
  | n, .non, _, _, _, _, r, rv, _ => by
    rw [r.non] at rv
    obtain rfl := rv
    exact ⟨[], .none⟩
  | n, .bl b, _, _, _, _, r, rv, _ => by
    rw [r.bl] at rv
    obtain rfl := rv
    exact ⟨[], .bool b⟩
  | n, .int b, _, _, _, _, r, rv, _ => by
    rw [r.int] at rv
    obtain ⟨t, rfl⟩ := rv
    exact ⟨[], .int b t⟩
  | n, .str b, _, _, _, _, r, rv, _ => by
    rw [r.str] at rv
    obtain ⟨t, rfl⟩ := rv
    exact ⟨[], .str b t⟩
  | n + 1, .tup ds, R, L, v, u, r, rv, h => by
    obtain ⟨p, vs, rfl, hp, rr⟩ := r.tup
    obtain rfl := rv
    obtain ⟨its, r1, ⟨o, ho, hc, m, hd⟩, _⟩ := I.tuple hp
    have all : ∀ {ds : List D} {vs : List V} {its : List Value}, ds.all (D.dat n) = true → Reps X.K H R vs ds → Vals vs its → ∃ as, ReadsAll s.heap its (D.pys ds) as := by
      intro ds
      induction ds with
      | nil => intro vs its _ r v; cases r; cases v; exact ⟨[], .nil⟩
      | cons d ds ih =>
        intro vs its h r v
        simp only [List.all_cons, Bool.and_eq_true] at h
        cases r with
        | cons r1 r2 => cases v with
          | cons v1 v2 =>
            obtain ⟨as, q1⟩ := reads_of I n d (L := L) (.inl r1) v1 h.1
            obtain ⟨bs, q2⟩ := ih h.2 r2 v2
            exact ⟨_, .cons q1 q2⟩
    obtain ⟨as, q⟩ := all h rr r1
    exact ⟨as, .tuple ho hc hd (by simpa using q)⟩
  | n + 1, .lst ds, R, L, v, u, r, rv, h => by
    obtain ⟨p, vs, rfl, hp, rr⟩ := r.lst
    obtain rfl := rv
    obtain ⟨its, r1, ⟨o, m, ho, hc, _, hd⟩, _⟩ := I.list (SqL.of hp)
    have all : ∀ {ds : List D} {vs : List V} {its : List Value}, ds.all (D.dat n) = true → Reps X.K H R vs ds → Vals vs its → ∃ as, ReadsAll s.heap its (D.pys ds) as := by
      intro ds
      induction ds with
      | nil => intro vs its _ r v; cases r; cases v; exact ⟨[], .nil⟩
      | cons d ds ih =>
        intro vs its h r v
        simp only [List.all_cons, Bool.and_eq_true] at h
        cases r with
        | cons r1 r2 => cases v with
          | cons v1 v2 =>
            obtain ⟨as, q1⟩ := reads_of I n d (L := L) (.inl r1) v1 h.1
            obtain ⟨bs, q2⟩ := ih h.2 r2 v2
            exact ⟨_, .cons q1 q2⟩
    obtain ⟨as, q⟩ := all h rr r1
    exact ⟨_, .list ho hc hd (by simpa using q)⟩
  | 0, .tup _, _, _, _, _, _, _, h => by cases h
  | 0, .lst _, _, _, _, _, _, _, h => by cases h
  | n, .ty _, _, _, _, _, _, _, h => by cases n <;> cases h
  | n, .gl _, _, _, _, _, _, _, h => by cases n <;> cases h
  | n, .frl _, _, _, _, _, _, _, h => by cases n <;> cases h
  | n, .dK _, _, _, _, _, _, _, h => by cases n <;> cases h
  | n, .ins _ _, _, _, _, _, _, _, h => by cases n <;> cases h
  | n, .exc _ _, _, _, _, _, _, _, h => by cases n <;> cases h
def gEq (a b : D) : Option D := if (a.dat 20 && b.dat 20) = true then some (.bl (PyData.eqv a.py b.py)) else none
def gNe (a b : D) : Option D := if (a.dat 20 && b.dat 20) = true then some (.bl (!PyData.eqv a.py b.py)) else none
/-- == on data -/
def rEqD (K : PySem.W.Frag) (neg : Bool) : R2 := fun x y H Q => ∃ (R L : Reg) (a b : D), RepB K H R L x a ∧ RepB K H R L y b ∧ a.dat 20 = true ∧ b.dat 20 = true ∧ Q (.bl (if neg then !PyData.eqv a.py b.py else PyData.eqv a.py b.py)) H
theorem shaped_of {a : D} (h : a.dat 20 = true) : PySem.SeqAt.shaped a.py = true := by
  obtain ⟨h1, h2⟩ := py_lay 20 a h
  unfold PySem.SeqAt.shaped
  rw [h1, decide_eq_true (by omega)]; rfl
theorem op_eqD {X : Cx} (hu : X.A.units + 64 < cLine) : OpR X (compareOp .Eq) (rEqD X.K false) := fun pins s σ H x y v u Q I rx ry ⟨R, L, a, b, ra, rb, da, db, q⟩ => by
  obtain ⟨as, r1⟩ := reads_of I 20 a ra rx da
  obtain ⟨bs, r2⟩ := reads_of I 20 b rb ry db
  exact PySem.SeqAt.compareEq_shaped r1 r2 (shaped_of da) (shaped_of db) hu ⟨V.bl (PyData.eqv a.py b.py), H, I, rfl, q⟩
theorem op_neD {X : Cx} (hu : X.A.units + 64 < cLine) : OpR X (compareOp .NotEq) (rEqD X.K true) := fun pins s σ H x y v u Q I rx ry ⟨R, L, a, b, ra, rb, da, db, q⟩ => by
  obtain ⟨as, r1⟩ := reads_of I 20 a ra rx da
  obtain ⟨bs, r2⟩ := reads_of I 20 b rb ry db
  exact PySem.SeqAt.compareNe_shaped r1 r2 (shaped_of da) (shaped_of db) hu ⟨V.bl (!PyData.eqv a.py b.py), H, I, rfl, q⟩
theorem o2_eq : Op2 K (rEqD K false) true gEq := fun H R L x y dx dy d Q rx ry hf e k => by
  unfold gEq at e
  split at e
  · rename_i hc
    simp only [Bool.and_eq_true] at hc
    cases e; exact ⟨R, L, dx, dy, rx, ry, hc.1, hc.2, k _ H (fun _ _ h => h) .bl nv⟩
  · cases e
theorem o2_ne : Op2 K (rEqD K true) true gNe := fun H R L x y dx dy d Q rx ry hf e k => by
  unfold gNe at e
  split at e
  · rename_i hc
    simp only [Bool.and_eq_true] at hc
    cases e; exact ⟨R, L, dx, dy, rx, ry, hc.1, hc.2, k _ H (fun _ _ h => h) .bl nv⟩
  · cases e
end
end GR
/-! GM -/
set_option linter.all false
set_option maxRecDepth 100000
/-! Subscripts, what is changed in place, built-ins. -/
namespace GR
section
open PySem PySem.Spec PyProof.Rows PyProof
theorem subTail {prog : Program} {w : World} {A : Around} {E : Value → Shared → Prop} {s : Shared} {value slice : Expr} {o i : Value} {T id : String} {Q : Value → Shared → Prop} (hT : s.TypeIs o T)
    (hl : typeLookup (.type T) "__getitem__" = pure (some (.builtin id))) (h : wpAny (model prog w) A (getItem o i) Q E s) (hs : subscripted slice false o i = operate [o, i] (getItem o i)) :
    wpAny (model prog w) A (subscriptTail value slice o i) Q E s := by
  have last : wpAny (model prog w) A (subscripted slice false o i) (fun r s' => wpAny (model prog w) A (letTemporaryGo value o r >>= fun _ => pure r) Q E s') E s := by
    rw [hs]
    exact wpAny_operating (wpAny_mono h (fun r s' h' => wpAny_bind (wpAny_letTemporaryGo (wpAny_pure h'))) fun _ _ x => x)
  unfold subscriptTail
  refine wpAny_bind ?_
  rw [getitemInPython_of_ne hT.not_modules]
  refine wpAny_bind (wpAny_specialOf hT hl ?_)
  first
    | exact wpAny_pure (wpAny_bind last)
    | exact wpAny_bind last
    | exact wpAny_pure last
end
open PySem L2
variable [TabT]
/-! ### a[b] -/
def gIx : D → D → Option D
  | .lst ds, .int i => atI ds i
  | .tup ds, .int i => atI ds i
  | .frl is, .int i => (atI is i).map D.int
  | .dK ks, .int i => (ks.find? fun kv => decide (kv.1 = .inl i)).map Prod.snd
  | .dK ks, .str x => (ks.find? fun kv => decide (kv.1 = .inr x)).map Prod.snd
  | _, _ => none
theorem ix_dict {X : Cx} (hu : X.A.units + 1 < cLine) : IxR X (fun x y H Q => ∃ a v, x = .ref a ∧ DGet H a y (some v) ∧ Q v H) := by
  intro value slice pins s σ H x y v u Q I rx ry ⟨a, z, ex, g, q⟩ hs
  subst ex
  obtain rfl : v = Value.ref a := rx
  refine subTail (dict_typeIs I g) PySem.F.slot_dict_getitem.lookup ?_ hs
  exact d_getItem hu I g ry fun w' s3 I3 rw' => ⟨z, H, I3, rw', q⟩
/-- a list, a tuple, a text, a dict -/
def rIx4 (K : PySem.W.Frag) : R2 := fun x y H Q => rIx K x y H Q ∨ ∃ a v, x = .ref a ∧ DGet H a y (some v) ∧ Q v H
theorem ix_any {X : Cx} (hu : X.A.units + 1 < cLine) : IxR X (rIx4 X.K) := ix_seq.or (ix_dict hu)
section
variable {K : PySem.W.Frag} {H : Hp} {R L : Reg}
theorem reps_at {vs : List V} {ds : List D} {i : Int} {d : D} (r : Reps K H R vs ds) (h : atI ds i = some d) : ∃ v, atI vs i = some v ∧ Rep K H R v d := by
  unfold atI at h ⊢
  cases e : ixN ds.length i with
  | none => rw [e] at h; cases h
  | some j =>
    rw [e] at h
    rw [r.len, e]
    exact r.get h
theorem find_rel {kvs : List (Key × V)} {ks : List (Key × D)} (e : kvs.map Prod.fst = ks.map Prod.fst) (r : Reps K H R (kvs.map Prod.snd) (ks.map Prod.snd)) (k : Key) :
    (∀ d, (ks.find? fun kv => decide (kv.1 = k)).map Prod.snd = some d → ∃ v, valV kvs k = some v ∧ Rep K H R v d) ∧ ((ks.find? fun kv => decide (kv.1 = k)).map Prod.snd = none → valV kvs k = none) := by
  induction kvs generalizing ks with
  | nil => cases ks with
    | nil => exact ⟨fun d h => by simp at h, fun _ => rfl⟩
    | cons _ _ => simp at e
  | cons kv kvs ih => cases ks with
    | nil => simp at e
    | cons kd ks =>
      simp only [List.map_cons, List.cons.injEq] at e
      cases r with
      | cons r1 r2 =>
        obtain ⟨i1, i2⟩ := ih e.2 r2
        by_cases h : kd.1 = k
        · have h' : kv.1 = k := e.1.trans h
          simp only [List.find?_cons, h, decide_true, Option.map_some]
          exact ⟨fun d hd => ⟨kv.2, valV_pos h', by cases hd; exact r1⟩, fun z => nomatch z⟩
        · have h' : ¬ kv.1 = k := fun q => h (e.1.symm.trans q)
          simp only [List.find?_cons, h, decide_false, Bool.false_eq_true]
          rw [valV_neg h']
          exact ⟨i1, i2⟩
theorem o2_ix : Op2 K (rIx4 K) false gIx := fun H R L x y dx dy d Q rx ry hf e k => by
  unfold gIx at e
  split at e
  · obtain ⟨p, vs, rfl, hp, r⟩ := rx.lst
    obtain ⟨v, hv, rv⟩ := reps_at r e
    exact .inl (.inl ⟨p, vs, _, v, rfl, ry.int, SqL.of hp, hv, k v H (fun _ _ h => h) rv fun z => nomatch z⟩)
  · obtain ⟨p, vs, rfl, hp, r⟩ := rx.tup
    obtain ⟨v, hv, rv⟩ := reps_at r e
    exact .inl (.inr (.inl ⟨p, vs, _, v, rfl, ry.int, hp, hv, k v H (fun _ _ h => h) rv fun z => nomatch z⟩))
  · rename_i is i
    obtain ⟨p, rfl, hp⟩ := rx.frl
    cases e1 : atI is i with
    | none => rw [e1] at e; cases e
    | some z =>
      rw [e1] at e
      cases e
      refine .inl (.inl ⟨p, _, _, .int z, rfl, ry.int, hp, ?_, k _ H (fun _ _ h => h) .int fun z => nomatch z⟩)
      unfold atI at e1 ⊢
      rw [List.length_map]
      cases e2 : ixN is.length i with
      | none => rw [e2] at e1; cases e1
      | some j =>
        rw [e2] at e1
        show (is.map V.int)[j]? = some (.int z)
        rw [List.getElem?_map, show is[j]? = some z from e1]; rfl
  · obtain ⟨p, kvs, rfl, hp, ek, r⟩ := rx.dK
    obtain ⟨v, hv, rv⟩ := (find_rel ek r _).1 d e
    exact .inr ⟨p, v, rfl, .inl ⟨kvs, .inl _, hp, ry.int, hv.symm⟩, k v H (fun _ _ h => h) rv fun z => nomatch z⟩
  · obtain ⟨p, kvs, rfl, hp, ek, r⟩ := rx.dK
    obtain ⟨v, hv, rv⟩ := (find_rel ek r _).1 d e
    exact .inr ⟨p, v, rfl, .inl ⟨kvs, .inr _, hp, ry.str, hv.symm⟩, k v H (fun _ _ h => h) rv fun z => nomatch z⟩
  · cases e
end
/-! ### a thing of ours is changed -/
section
variable {K : PySem.W.Frag} {g : Cfg} {G : Gnd} {B B' : Nat → Reg} {H H' H1 H2 : Hp} {σ : St} {env env' : Env} {p : Addr} {d d' : D} {v : V} {o o' : HO}
theorem EnvOk.put (ok : EnvOk K g G B σ H env) {j : Nat} (hj : j ∈ g.own) (he : env[j]? = some (some d)) (hs : σ[j]? = some (some (.ref p))) (hp : H p = some o) (bo : Box o) (ow : OwnAt K (upd H p o') (fun a => Zr G g env σ a ∧ B j a) p d') :
    Stp K g G B σ H env (upd H p o') (env.set j (some d')) := by
  have lp : Live g env σ p := ⟨j, d, hj, he, hs⟩
  have lv : ∀ a, Live g (env.set j (some d')) σ a → Live g env σ a := by
    rintro a ⟨i, di, h1, h2, h3⟩
    rcases get_set_of h2 with ⟨rfl, _⟩ | ⟨_, h2⟩
    · rw [hs] at h3; cases h3; exact lp
    · exact ⟨i, di, h1, h2, h3⟩
  have zr : ∀ a, Zr G g env σ a → Zr G g (env.set j (some d')) σ a := fun a ⟨h, n⟩ => ⟨h, fun q => n (lv a q)⟩
  have fr : Fr (fun a => ¬ Live g env σ a) H (upd H p o') := fun a u h e => by
    have ne : a ≠ p := by
      rintro rfl
      rcases h with h | h
      · exact h lp
      · rw [hp] at e; cases e; exact bo.noStay h
    exact ⟨u, by rw [upd_ne ne]; exact e, Vary.refl _⟩
  have frz : ∀ (i : Nat), Fr (fun a => Zr G g env σ a ∧ B i a) H (upd H p o') := fun i => fr.mono fun a x => x.1.2
  have hdom : ∀ a, upd H p o' a = none → H a = none := upd_dom
  have jl : j < env.length := (List.getElem?_eq_some_iff.mp he).1
  have back : ∀ {i : Nat} {di : D}, i ∈ g.own → (env.set j (some d'))[i]? = some (some di) → ∃ d0, env[i]? = some (some d0) := fun {i di} hi h => by
    rcases get_set_of h with ⟨rfl, _⟩ | ⟨_, h⟩
    · exact ⟨d, he⟩
    · exact ⟨di, h⟩
  refine ⟨?_, fr, lv, hdom⟩
  exact {
    len := by rw [List.length_set]; exact ok.len
    val := fun i di e n => by
      rcases get_set_of e with ⟨rfl, _⟩ | ⟨_, e⟩
      · exact absurd hj n
      · obtain ⟨u, h1, h2⟩ := ok.val i di e n
        exact ⟨u, h1, (h2.fr (frz _)).mono fun a x => ⟨zr a x.1, x.2⟩⟩
    own := fun i di e n => by
      rcases get_set_of e with ⟨rfl, ed⟩ | ⟨ne, e⟩
      · cases ed
        obtain ⟨q, h1, h2, h3⟩ := ok.own i d he n
        rw [hs] at h1; cases h1
        exact ⟨p, hs, ow.mono fun a x => ⟨zr a x.1, x.2⟩, h3⟩
      · obtain ⟨q, h1, h2, h3⟩ := ok.own i di e n
        have nq : q ≠ p := fun z => ne (ok.apart i j di d p n hj e he (by rw [← z]; exact h1) hs)
        exact ⟨q, h1, (h2.fr (fun u hu => by rw [upd_ne nq]; exact hu) (frz _)).mono fun a x => ⟨zr a x.1, x.2⟩, h3⟩
    io := fun i q h => by
      obtain ⟨h1, h2, h3, d0, h4⟩ := ok.io i q h
      refine ⟨h1, h2, h3, ?_⟩
      by_cases z : i = j
      · subst z; exact ⟨d', by rw [List.getElem?_set, if_pos rfl, if_pos jl]⟩
      · exact ⟨d0, by rw [set_get_ne z]; exact h4⟩
    ioall := ok.ioall
    apart := fun a b d1 d2 q ha hb h1 h2 h3 h4 => by
      obtain ⟨x1, y1⟩ := back ha h1
      obtain ⟨x2, y2⟩ := back hb h2
      exact ok.apart a b x1 x2 q ha hb y1 y2 h3 h4
    base := fun a u n h => by
      have ne : a ≠ p := by
        rintro rfl
        obtain ⟨q, h1, _, h2, h3⟩ := ok.own j d he hj
        rw [hs] at h1; cases h1
        by_cases hio : j ∈ g.io
        · exact n j (h2 hio)
        · rw [h3 hio] at h; cases h
      rw [upd_ne ne]; exact ok.base a u n h
    tab := tabs_upd ok.tab (fun ps z => bo.noTbl ps (Option.some.inj (hp.symm.trans z))) fun c q z => bo.noCode c q (Option.some.inj (hp.symm.trans z))
    dom := fun a h => ok.dom a (hdom a h)
    ap := ok.ap
    hold := fun h q => h.mono _ _ _ (h.fr _ _ _ (ok.hold h q) (frz _)) fun a x => ⟨zr a x.1, x.2⟩
    ex := ok.ex }
end
/-! ### o[i] = v -/
def putD {κ : Type} [DecidableEq κ] (ks : List (κ × D)) (k : κ) (d : D) : List (κ × D) :=
  if (ks.any fun kv => decide (kv.1 = k)) = true then ks.map (fun kv => if kv.1 = k then (kv.1, d) else kv) else ks ++ [(k, d)]
def gPut : D → D → D → Option D
  | .lst ds, .int i, d => match ixN ds.length i with
    | some j => some (.lst (ds.set j d))
    | none => none
  | .dK ks, .int i, d => if ks.length < 16777216 then some (.dK (putD ks (.inl i) d)) else none
  | .dK ks, .str x, d => if ks.length < 16777216 then some (.dK (putD ks (.inr x) d)) else none
  | _, _, _ => none
theorem putK_rel {K : PySem.W.Frag} {H : Hp} {R : Reg} {kvs : List (Key × V)} {ks : List (Key × D)} (e : kvs.map Prod.fst = ks.map Prod.fst) (r : Reps K H R (kvs.map Prod.snd) (ks.map Prod.snd)) (k : Key) {v : V} {d : D} (rv : Rep K H R v d) :
    (putK kvs k v).map Prod.fst = (putD ks k d).map Prod.fst ∧ Reps K H R ((putK kvs k v).map Prod.snd) ((putD ks k d).map Prod.snd) := by
  have ha : (kvs.any fun kv => decide (kv.1 = k)) = ks.any fun kv => decide (kv.1 = k) := by
    clear r
    induction kvs generalizing ks with
    | nil => cases ks with
      | nil => rfl
      | cons _ _ => simp at e
    | cons kv kvs ih => cases ks with
      | nil => simp at e
      | cons kd ks =>
        simp only [List.map_cons, List.cons.injEq] at e
        simp only [List.any_cons, ih e.2, e.1]
  unfold putK putD
  rw [ha]
  split
  · clear ha
    rename_i hx
    clear hx
    induction kvs generalizing ks with
    | nil => cases ks with
      | nil => exact ⟨rfl, .nil⟩
      | cons _ _ => simp at e
    | cons kv kvs ih => cases ks with
      | nil => simp at e
      | cons kd ks =>
        simp only [List.map_cons, List.cons.injEq] at e
        cases r with
        | cons r1 r2 =>
          obtain ⟨i1, i2⟩ := ih e.2 r2
          by_cases h : kd.1 = k
          · have h' : kv.1 = k := e.1.trans h
            simp only [List.map_cons, h, h', if_true]
            exact ⟨by rw [i1], .cons rv i2⟩
          · have h' : ¬ kv.1 = k := fun q => h (e.1.symm.trans q)
            simp only [List.map_cons, h, h', if_false]
            exact ⟨by rw [i1, e.1], .cons r1 i2⟩
  · simp only [List.map_append, List.map_cons, List.map_nil]
    exact ⟨by rw [e], r.append (.cons rv .nil)⟩
theorem putK_len {κ : Type} [DecidableEq κ] (kvs : List (κ × V)) (k : κ) (v : V) : (putK kvs k v).length ≤ kvs.length + 1 := length_putK kvs k v
/-- x[i] = v at a slot of ours -/
def setIxK (g : Cfg) (j : Nat) (fi : EF) (d : D) (e1 : Env) : Option (Fl × Env) := match e1[j]?.join with
  | none => none
  | some _ => match fi e1 with
    | some (.exc C d, e) => some (.exc C d, e)
    | some (.val di, e2) => match e2[j]?.join with
      | some c => match gPut c di d with
        | some c' => some (.nx, e2.set j (some c'))
        | none => none
      | none => none
    | _ => none
def fSetIx (g : Cfg) (j : Nat) (fi fv : EF) : SF := fun env => match fv env with
  | some (.exc C d, e) => some (.exc C d, e)
  | some (rv, e) => match mv g rv e with
    | some (d, e1) => setIxK g j fi d e1
    | none => none
  | none => none
def rSet4 : TSet := fun o i v H Q => rSetL o i v H Q ∨ rSetD o i v H Q
theorem set_any {X : Cx} (hu : X.A.units + 1 < cLine) : PSet X rSet4 := fun pins s σ H o i v ov iv u Q I ro ri rv h => h.elim (fun h => set_list pins s σ H o i v ov iv u Q I ro ri rv h) fun h => set_dict hu pins s σ H o i v ov iv u Q I ro ri rv h
section
variable {X : Cx} {g : Cfg} {W : WX} {tn ti tv : Bool} {i e : Expr} {fi fv : EF} {pos pos' pos2 : Pos}
theorem ds_setIx (j : Nat) {x : Str} (hu : X.A.units + 1 < cLine) (he : DE X g W tv e fv) (hi : DE X g W ti i fi) (hj : j ∈ g.own := by walk_at "gmem") (hN : X.N[j]? = some x := by rfl) (hv : Vis X.env.scope x := by first | exact Or.inl rfl | exact Or.inr (Or.inl rfl) | exact Or.inr (Or.inr rfl))
    (hd : (x == ("__debug__" : Str)) = false := by decide) (hcd : (x == ("__classdict__" : Str)) = false := by decide)
    (ha : ∀ v, assign (.Subscript (.Name x pos2) i pos') X.env v = (do let ov ← holding [v] (eval (.Name x pos2) X.env); let iv ← holding [v, ov] (eval i X.env); standAt pos'; holding [v, ov, iv] (setItem ov iv v); release [v, ov, iv] []) := by intro _; rfl)
    (hs : swapsWithSole [.Subscript (.Name x pos2) i pos'] e pos.line X.env = pure false := by rfl) (hw : swappedStores [.Subscript (.Name x pos2) i pos'] e X.env = pure none := by rfl) (h1 : (assignEach [.Subscript (.Name x pos2) i pos'] X.env).map (·.2) = [assign (.Subscript (.Name x pos2) i pos') X.env] := by rfl) :
    DS X g W tn (.Assign [.Subscript (.Name x pos2) i pos'] e pos) (fSetIx g j fi fv) := (ps_asg he (pg_sub (pv j hN hv hd hcd) hi (set_any hu) ha) hs hw h1).imp fun Dn σ H ⟨G, env, fl, env', ok, ee, q⟩ => by
  unfold fSetIx at ee
  cases e1 : fv env with
  | none => rw [e1] at ee; cases ee
  | some re =>
    obtain ⟨r, env1⟩ := re
    rw [e1] at ee
    refine DEr.intro ok e1 (fun v H1 s l t => ?_) (fun C d er a H' s ha => ?_)
    · have main : (match mv g r env1 with
        | some (d, e1) => setIxK g j fi d e1
        | none => none) = some (fl, env') → L2.gSub (tVar j) (DEr X.K g W ti fi) rSet4 v σ H1 Dn.nx := fun ee => by
        cases e2 : mv g r env1 with
        | none => simp [e2] at ee
        | some de =>
          obtain ⟨d, env2⟩ := de
          simp only [e2] at ee
          obtain ⟨s2, rd, _⟩ := mv_ok s.ok l e2
          have s12 := s.trans s2
          unfold setIxK at ee
          cases e0 : env2[j]?.join with
          | none => rw [e0] at ee; cases ee
          | some c0 =>
            rw [e0] at ee
            simp only at ee
            obtain ⟨p, hp, _⟩ := s12.ok.own j _ (join_of e0) hj
            refine ⟨_, hp, ?_⟩
            cases e3 : fi env2 with
            | none => rw [e3] at ee; cases ee
            | some re3 =>
              obtain ⟨r3, env3⟩ := re3
              rw [e3] at ee
              refine DEr.intro s12.ok e3 (fun iv H2 s3 l3 t3 => ?_) (fun C dd er a H2 s3 ha => ?_)
              · cases r3 with
                | val di =>
                  simp only at ee
                  cases e4 : env3[j]?.join with
                  | none => rw [e4] at ee; cases ee
                  | some c =>
                    rw [e4] at ee
                    simp only at ee
                    cases e5 : gPut c di d with
                    | none => rw [e5] at ee; cases ee
                    | some c' =>
                      rw [e5] at ee
                      cases ee
                      obtain ⟨p', hp', ow, _⟩ := s3.ok.own j c (join_of e4) hj
                      rw [hp] at hp'; cases hp'
                      have rd3 := s3.rep rd
                      have lp : Live g env3 σ p := ⟨j, c, hj, join_of e4, hp⟩
                      have fin : ∀ (o' : HO), (∃ o, H2 p = some o ∧ Box o) → OwnAt X.K (upd H2 p o') (fun a => Zr G g env3 σ a ∧ Top j a) p c' → Dn.nx σ (upd H2 p o') := fun o' ⟨o, ho, bo⟩ ow' =>
                        q _ _ (s3.ok.put hj (join_of e4) hp ho bo ow').ok
                      have reg : ∀ {o' : HO} {vs : List V} {ds : List D}, Reps X.K H2 (fun a => Zr G g env3 σ a ∧ Top j a) vs ds → (∃ o, H2 p = some o ∧ Box o) → Reps X.K (upd H2 p o') (fun a => Zr G g env3 σ a ∧ Top j a) vs ds := fun {o' vs ds} r ⟨o, ho, bo⟩ => r.fr fun a u h e => by
                        have ne : a ≠ p := by
                          rintro rfl
                          rcases h with h | h
                          · exact h.1.2 lp
                          · rw [ho] at e; cases e; exact bo.noStay h
                        exact ⟨u, by rw [upd_ne ne]; exact e, Vary.refl _⟩
                      have bx := ow.box
                      unfold gPut at e5
                      split at e5
                      · rename_i ds i
                        obtain ⟨vs, hh, rr⟩ := ow
                        cases l3
                        cases ej : ixN ds.length i with
                        | none => rw [ej] at e5; cases e5
                        | some jj =>
                          rw [ej] at e5
                          cases e5
                          refine .inl ⟨p, vs, i, jj, rfl, rfl, hh, by rw [rr.len]; exact ej, ?_⟩
                          exact fin _ bx ⟨_, upd_same, reg (rr.set (rd3.mono fun a x => ⟨x, trivial⟩) jj) bx⟩
                      · split at e5
                        · rename_i ks i hl
                          obtain ⟨kvs, hh, ek, rr⟩ := ow
                          cases l3
                          cases e5
                          obtain ⟨k1, k2⟩ := putK_rel ek rr (.inl i) (rd3.mono fun a x => ⟨x, trivial⟩)
                          have hlen : kvs.length = ks.length := by simpa using congrArg List.length ek
                          refine .inr ⟨p, _, rfl, .inl ⟨kvs, .inl i, hh, rfl, by rw [hlen, sizeLine_eq]; exact hl, rfl⟩, ?_⟩
                          exact fin _ bx ⟨_, upd_same, k1, reg k2 bx⟩
                        · cases e5
                      · split at e5
                        · rename_i ks i hl
                          obtain ⟨kvs, hh, ek, rr⟩ := ow
                          cases l3
                          cases e5
                          obtain ⟨k1, k2⟩ := putK_rel ek rr (.inr i) (rd3.mono fun a x => ⟨x, trivial⟩)
                          have hlen : kvs.length = ks.length := by simpa using congrArg List.length ek
                          refine .inr ⟨p, _, rfl, .inl ⟨kvs, .inr i, hh, rfl, by rw [hlen, sizeLine_eq]; exact hl, rfl⟩, ?_⟩
                          exact fin _ bx ⟨_, upd_same, k1, reg k2 bx⟩
                        · cases e5
                      · cases e5
                | slot i => cases ee
                | exc C dd => exact l3.elim
              · subst er
                simp only at ee
                cases ee
                exact q a σ H2 s3.ok ha
      cases r with
      | val d => exact main ee
      | slot i => exact main ee
      | exc C d => exact l.elim
    · subst er; cases ee; exact q a σ H' s.ok ha
end
end GR
/-! GN -/
set_option linter.all false
set_option maxRecDepth 100000
/-! Methods that change a thing of ours. -/
namespace GR
open PySem L2
variable [TabT]
section
variable {K : PySem.W.Frag} {H : Hp} {R : Reg} {p : Addr} {vs : List V} {ds : List D} {v : V} {d : D}
theorem fr_put (n : ¬ R p) {o o' : HO} (h : H p = some o) (b : Box o) : Fr R H (upd H p o') := fun a u hh e => by
  have ne : a ≠ p := by
    rintro rfl
    rcases hh with hh | hh
    · exact n hh
    · rw [h] at e; cases e; exact b.noStay hh
  exact ⟨u, by rw [upd_ne ne]; exact e, Vary.refl _⟩
def MutM (K : PySem.W.Frag) (T : String) (r : V → List V → Hp → VK → Prop) (gg : D → List D → Option (D × D)) : Prop :=
  ∀ (H : Hp) (R : Reg) (p : Addr) (c : D) (xs : List V) (ds : List D) (res c' : D) (Q : VK), OwnAt K H R p c → ¬ R p → Reps K H R xs ds → gg c ds = some (res, c') →
    (∀ v o', OwnAt K (upd H p o') R p c' → Rep K (upd H p o') R v res → Q v (upd H p o')) → r (.ref p) xs H Q
def gAppend : D → List D → Option (D × D)
  | .lst xs, [d] => if xs.length < 16777216 then some (.non, .lst (xs ++ [d])) else none
  | _, _ => none
def gInsert : D → List D → Option (D × D)
  | .lst xs, [.int i, d] => if xs.length < 16777216 ∧ 0 ≤ i ∧ i < 2 ^ 63 then some (.non, .lst (xs.take i.toNat ++ [d] ++ xs.drop i.toNat)) else none
  | _, _ => none
def gReverse : D → List D → Option (D × D)
  | .lst xs, [] => some (.non, .lst xs.reverse)
  | _, _ => none
def gClear : D → List D → Option (D × D)
  | .lst xs, [] => some (.non, .lst [])
  | _, _ => none
def gPop : D → List D → Option (D × D)
  | .lst xs, [] => match xs[xs.length - 1]? with
    | some d => some (d, .lst xs.dropLast)
    | none => none
  | _, _ => none
theorem m_append : MutM K "list" rAppend gAppend := fun H R p c xs ds res c' Q ow nr rr e k => by
  unfold gAppend at e
  split at e
  · split at e
    · rename_i hl
      cases e
      obtain ⟨vs, hh, r⟩ := ow
      cases rr with
      | cons r1 r2 =>
        cases r2
        refine ⟨p, vs, _, rfl, rfl, hh, by rw [r.len, sizeLine_eq]; exact hl, k _ _ ⟨_, upd_same, (r.append (.cons r1 .nil)).fr (fr_put nr hh (.inl ⟨_, rfl⟩))⟩ .non⟩
    · cases e
  · cases e
theorem m_insert : MutM K "list" (fun x vs H Q => ∃ (l : Addr) (xs : List V) (i : Int) (y : V), x = .ref l ∧ vs = [.int i, y] ∧ H l = some (.lst xs) ∧ xs.length < sizeLine ∧ 0 ≤ i ∧ i < 2 ^ 63 ∧
    Q .non (upd H l (.lst (xs.take i.toNat ++ [y] ++ xs.drop i.toNat)))) gInsert := fun H R p c xs ds res c' Q ow nr rr e k => by
  unfold gInsert at e
  split at e
  · split at e
    · rename_i hl
      cases e
      obtain ⟨vs, hh, r⟩ := ow
      cases rr with
      | cons r1 r2 =>
        cases r2 with
        | cons r2 r3 =>
          cases r3; cases r1
          refine ⟨p, vs, _, _, rfl, rfl, hh, by rw [r.len, sizeLine_eq]; exact hl.1, hl.2.1, hl.2.2, k _ _ ⟨_, upd_same, (((r.take _).append (.cons r2 .nil)).append (r.drop _)).fr (fr_put nr hh (.inl ⟨_, rfl⟩))⟩ .non⟩
    · cases e
  · cases e
theorem m_reverse : MutM K "list" rReverse gReverse := fun H R p c xs ds res c' Q ow nr rr e k => by
  unfold gReverse at e
  split at e
  · cases e
    obtain ⟨vs, hh, r⟩ := ow
    cases rr
    exact ⟨p, vs, rfl, rfl, hh, k _ _ ⟨_, upd_same, r.reverse.fr (fr_put nr hh (.inl ⟨_, rfl⟩))⟩ .non⟩
  · cases e
theorem m_clear : MutM K "list" rClear gClear := fun H R p c xs ds res c' Q ow nr rr e k => by
  unfold gClear at e
  split at e
  · cases e
    obtain ⟨vs, hh, r⟩ := ow
    cases rr
    exact ⟨p, vs, rfl, rfl, hh, k _ _ ⟨_, upd_same, .nil⟩ .non⟩
  · cases e
theorem reps_dropLast : ∀ {vs : List V} {ds : List D}, Reps K H R vs ds → Reps K H R vs.dropLast ds.dropLast
  | _, _, .nil => .nil
  | [_], [_], .cons _ .nil => .nil
  | v :: w :: vs, d :: e :: ds, .cons h (.cons h2 r) => by
    rw [List.dropLast_cons₂, List.dropLast_cons₂]
    exact .cons h (reps_dropLast (.cons h2 r))
theorem m_pop : MutM K "list" rPop gPop := fun H R p c xs ds res c' Q ow nr rr e k => by
  unfold gPop at e
  split at e
  · split at e
    · rename_i d hd
      cases e
      obtain ⟨vs, hh, r⟩ := ow
      cases rr
      obtain ⟨v, hv, rv⟩ := r.get hd
      have f := fr_put (o' := .lst vs.dropLast) nr hh (.inl ⟨_, rfl⟩)
      exact ⟨p, vs, v, rfl, rfl, hh, by rw [r.len]; exact hv, k _ _ ⟨_, upd_same, (reps_dropLast r).fr f⟩ (rv.fr f)⟩
    · cases e
  · cases e
end
/-- x.m(..) at a slot of ours, as a statement -/
def fMeth (g : Cfg) (j : Nat) (gg : D → List D → Option (D × D)) (fa : AF) : SF := fun env => match env[j]?.join with
  | some (.lst _) => match fa env with
    | some (.exc C d, e) => some (.exc C d, e)
    | some (.vals rs, e) => match mvs g rs e with
      | some (ds, e2) => match e2[j]?.join with
        | some c => match gg c ds with
          | some (_, c') => some (.nx, e2.set j (some c'))
          | none => none
        | none => none
      | none => none
    | none => none
  | _ => none
/-- x.m() at a slot of ours, its value wanted -/
def fMeth0 (j : Nat) (gg : D → List D → Option (D × D)) : EF := fun env => match env[j]?.join with
  | some (.lst ds) => match gg (.lst ds) [] with
    | some (r, c') => some (.val r, env.set j (some c'))
    | none => none
  | _ => none
section
variable {X : Cx} {g : Cfg} {W : WX} {tn : Bool} {e : Expr} {es : List Expr} {fa : AF} {pos pos2 apos cpos : Pos} {r : V → List V → Hp → VK → Prop} {gg : D → List D → Option (D × D)} {name : Str} {id : String}
theorem meth_rd (j : Nat) (hj : j ∈ g.own) (hm : MutM X.K "list" r gg) {σ : St} {H : Hp} {Dn : Ends} (h : DSr X.K g W tn (fMeth g j gg fa) Dn σ H) : tBM X.K "list" r (tVar j) (DAr X.K g W fa) σ H (fun _ H1 => Dn.nx σ H1) := by
  obtain ⟨G, env, fl, env', ok, ee, q⟩ := h
  unfold fMeth at ee
  split at ee
  · rename_i c0 e0
    obtain ⟨p, hp, ow0, _⟩ := ok.own j _ (join_of e0) hj
    cases e1 : fa env with
    | none => rw [e1] at ee; cases ee
    | some re =>
      obtain ⟨r1, env1⟩ := re
      rw [e1] at ee
      refine ⟨_, hp, .inl ⟨rfl, ?_⟩, ?_⟩
      · obtain ⟨vs, hh, _⟩ := ow0
        exact ⟨vs, SqL.of hh⟩
      refine DAr.intro ok e1 (fun rs er vs H1 s ls => ?_) (fun C d er a H1 s ha => ?_)
      · subst er
        simp only at ee
        cases e2 : mvs g rs env1 with
        | none => simp [e2] at ee
        | some de =>
          obtain ⟨ds, env2⟩ := de
          simp only [e2] at ee
          cases e3 : env2[j]?.join with
          | none => simp [e3] at ee
          | some c =>
            simp only [e3] at ee
            cases e4 : gg c ds with
            | none => simp [e4] at ee
            | some rc =>
              obtain ⟨res, c'⟩ := rc
              simp only [e4] at ee
              cases ee
              obtain ⟨s2, rr⟩ := mvs_ok s.ok ls e2
              have s12 := s.trans s2
              obtain ⟨p', hp', ow, _⟩ := s12.ok.own j c (join_of e3) hj
              rw [hp] at hp'; cases hp'
              have lp : Live g env2 σ p := ⟨j, c, hj, join_of e3, hp⟩
              obtain ⟨o, ho, bo⟩ := ow.box
              refine hm H1 (fun a => Zr G g env2 σ a ∧ Top j a) p c vs ds res c' _ ow (fun z => z.1.2 lp) (rr.mono fun a x => ⟨x, trivial⟩) e4 fun v o' ow' _ => ?_
              exact q _ _ (s12.ok.put hj (join_of e3) hp ho bo ow').ok
      · subst er; cases ee
        exact q a σ H1 s.ok ha
  · cases ee
theorem meth0_rd (j : Nat) (hj : j ∈ g.own) (hm : MutM X.K "list" r gg) {σ : St} {H : Hp} {Q : VK} (h : DEr X.K g W false (fMeth0 j gg) σ H Q) : tBM0 X.K "list" r (tVar j) σ H Q := by
  obtain ⟨G, B, env, r0, env', ok, ee, kv, kx⟩ := h.out
  unfold fMeth0 at ee
  split at ee
  · rename_i c0 e0
    obtain ⟨p, hp, ow, _⟩ := ok.own j _ (join_of e0) hj
    cases e4 : gg (.lst c0) [] with
    | none => simp [e4] at ee
    | some rc =>
      obtain ⟨res, c'⟩ := rc
      simp only [e4] at ee
      cases ee
      have lp : Live g env σ p := ⟨j, _, hj, join_of e0, hp⟩
      obtain ⟨o, ho, bo⟩ := ow.box
      refine ⟨_, hp, .inl ⟨rfl, ?_⟩, ?_⟩
      · obtain ⟨vs, hh, _⟩ := ow
        exact ⟨vs, SqL.of hh⟩
      refine hm H (fun a => Zr G g env σ a ∧ B j a) p _ [] [] res c' _ ow (fun z => z.1.2 lp) .nil e4 fun v o' ow' rv => ?_
      have s := ok.put hj (join_of e0) hp ho bo ow'
      exact kv v _ s (rv.mono fun a x => s.zr a x.1) fun _ _ z => nomatch z
  · cases ee
theorem ds_meth (j : Nat) {x : Str} (slot : PySem.Slot "list" name id) (hty : typeOf (.builtin id) = pure (.type "method_descriptor")) (hr : MtR X id r) (hm : MutM X.K "list" r gg) (ha : DA X g W (e :: es) fa) (hj : j ∈ g.own := by walk_at "gmem") (hN : X.N[j]? = some x := by rfl) (hv : Vis X.env.scope x := by first | exact Or.inl rfl | exact Or.inr (Or.inl rfl) | exact Or.inr (Or.inr rfl))
    (hd : (x == ("__debug__" : Str)) = false := by decide) (hcd : (x == ("__classdict__" : Str)) = false := by decide)
    (hbase : attributeBase (.Name x pos2) name X.env (eval (.Name x pos2) X.env) = eval (.Name x pos2) X.env := by rfl)
    (hfew : ((backTo cpos (starEach (e :: es) X.env)).all (fun x => !x.1) && (backToKw cpos (keywordEach [] X.env)).all (fun x => x.1.isSome) && decide ((e :: es).length + ([] : List Keyword).length + (if ([] : List Keyword).isEmpty then 0 else 1) < 30)) = true := by rfl)
    (hline : (apos.endLine == cpos.line) = true := by rfl)
    (hst : starEach (e :: es) X.env = (false, eval e X.env) :: starEach es X.env := by rfl) (hplain : (backTo cpos (starEach es X.env)).any (·.1) = false := by rfl)
    (hs : swapsWith (.Call (.Attribute (.Name x pos2) name apos) (e :: es) [] cpos) none pos.line X.env = pure false := by rfl) :
    DS X g W tn (.Expr (.Call (.Attribute (.Name x pos2) name apos) (e :: es) [] cpos) pos) (fMeth g j gg fa) :=
  (ps_expr (pe_bm PySem.F.plainAttrs_list slot hty hr (pv j hN hv hd hcd) ha hbase hfew hline hst hplain) hs).imp fun Dn σ H h => meth_rd j hj hm h
theorem de_meth0 (j : Nat) {x : Str} (slot : PySem.Slot "list" name id) (hty : typeOf (.builtin id) = pure (.type "method_descriptor")) (hr : MtR X id r) (hm : MutM X.K "list" r gg) (hj : j ∈ g.own := by walk_at "gmem") (hN : X.N[j]? = some x := by rfl) (hv : Vis X.env.scope x := by first | exact Or.inl rfl | exact Or.inr (Or.inl rfl) | exact Or.inr (Or.inr rfl))
    (hd : (x == ("__debug__" : Str)) = false := by decide) (hcd : (x == ("__classdict__" : Str)) = false := by decide)
    (hbase : attributeBase (.Name x pos2) name X.env (eval (.Name x pos2) X.env) = eval (.Name x pos2) X.env := by rfl) (hline : (apos.endLine == cpos.line) = true := by rfl) :
    DE X g W false (.Call (.Attribute (.Name x pos2) name apos) [] [] cpos) (fMeth0 j gg) :=
  (pe_bm0 PySem.F.plainAttrs_list slot hty hr (pv j hN hv hd hcd) hbase hline).imp fun σ H Q h => meth0_rd j hj hm h
end
end GR
/-! GO -/
set_option linter.all false
set_option maxRecDepth 100000
/-! List comprehensions. -/
namespace GR
open PySem L2
variable [TabT]
abbrev W0 : WX := fun _ _ _ _ => False
section
variable {K : PySem.W.Frag} {g : Cfg} {G : Gnd} {B B' : Nat → Reg} {H H' H1 H2 : Hp} {σ σ' : St} {env env' : Env} {p : Addr} {d : D} {v : V} {R : Reg}
/-- the slots that are not held may hold anything -/
theorem EnvOk.sig (ok : EnvOk K g G B σ H env) (hl : σ'.length = σ.length) (h : ∀ (i : Nat) (d : D), env[i]? = some (some d) → σ'[i]? = σ[i]?) (hxs : ∀ x ∈ g.ex, σ'[x.1]? = σ[x.1]?) : EnvOk K g G B σ' H env := by
  have lv : ∀ a, Live g env σ' a ↔ Live g env σ a := fun a => ⟨fun ⟨i, d, h1, h2, h3⟩ => ⟨i, d, h1, h2, by rw [← h i d h2]; exact h3⟩, fun ⟨i, d, h1, h2, h3⟩ => ⟨i, d, h1, h2, by rw [h i d h2]; exact h3⟩⟩
  have zr : ∀ a, Zr G g env σ a → Zr G g env σ' a := fun a ⟨x, n⟩ => ⟨x, fun q => n ((lv a).mp q)⟩
  exact {
    len := by rw [hl]; exact ok.len
    val := fun i d e n => by
      obtain ⟨v, h1, h2⟩ := ok.val i d e n
      exact ⟨v, by rw [h i d e]; exact h1, h2.mono fun a x => ⟨zr a x.1, x.2⟩⟩
    own := fun i d e n => by
      obtain ⟨q, h1, h2, h3⟩ := ok.own i d e n
      exact ⟨q, by rw [h i d e]; exact h1, h2.mono fun a x => ⟨zr a x.1, x.2⟩, h3⟩
    io := fun i q hq => by
      obtain ⟨h1, h2, h3, d, h4⟩ := ok.io i q hq
      exact ⟨h1, h2, by rw [h i d h4]; exact h3, d, h4⟩
    ioall := ok.ioall
    apart := fun a b d1 d2 q ha hb h1 h2 h3 h4 => ok.apart a b d1 d2 q ha hb h1 h2 (by rw [← h a d1 h1]; exact h3) (by rw [← h b d2 h2]; exact h4)
    base := ok.base
    tab := ok.tab
    dom := ok.dom
    ap := ok.ap
    hold := fun x q => x.mono _ _ _ (ok.hold x q) fun a z => ⟨zr a z.1, z.2⟩
    ex := fun x m => by rw [hxs x m]; exact ok.ex x m }
theorem wipeE_get : ∀ {wl : List Nat} {env : Env} {i : Nat} {d : D}, (wipeE env wl)[i]? = some (some d) → env[i]? = some (some d) ∧ i ∉ wl
  | [], _, _, _, h => ⟨h, fun z => nomatch z⟩
  | j :: wl, env, i, d, h => by
    obtain ⟨h1, h2⟩ := wipeE_get (wl := wl) (env := env.set j none) h
    obtain ⟨h3, h4⟩ := set_none_get h1
    exact ⟨h3, fun z => (List.mem_cons.mp z).elim h4 h2⟩
/-- the ground while a new thing at Dn is made: what it holds so far is told -/
def Gnd.tmp (G : Gnd) (Dn : Addr) (o : HO) : Gnd := ⟨fun a => G.A a ∧ a ≠ Dn, G.pa, fun a => if a = Dn then some o else G.H0 a, G.hs⟩
theorem zr_tmp {Dn : Addr} {o : HO} : ∀ a, Zr (G.tmp Dn o) g env σ a → Zr G g env σ a ∧ a ≠ Dn := fun a ⟨h, n⟩ => by
  rcases h with h | h
  · exact ⟨⟨.inl h.1, n⟩, h.2⟩
  · have h' : (if a = Dn then some o else G.H0 a) = none := h
    by_cases q : a = Dn
    · rw [if_pos q] at h'; cases h'
    · rw [if_neg q] at h'; exact ⟨⟨.inr h', n⟩, q⟩
theorem tmp_zr {Dn : Addr} {o : HO} {a : Addr} (h : Zr G g env σ a) (ne : a ≠ Dn) : Zr (G.tmp Dn o) g env σ a := ⟨h.1.imp (fun x => ⟨x, ne⟩) fun x => (if_neg ne).trans x, h.2⟩
/-- a new thing is begun -/
theorem EnvOk.begin (ok : EnvOk K g G B σ H env) {Dn : Addr} (hD : H Dn = none) (o : HO) : EnvOk K g (G.tmp Dn o) B σ (upd H Dn o) env := by
  have ok1 := ok.allocB
  have hd0 : G.H0 Dn = none := ok.dom Dn hD
  have up : ∀ a u, H a = some u → upd H Dn o a = some u := upd_same_of hD
  have zr : ∀ (i : Nat) a, Zr G g env σ a ∧ B i a ∧ H a ≠ none → Zr (G.tmp Dn o) g env σ a ∧ B i a := fun i a x => ⟨tmp_zr x.1 fun q => x.2.2 (by rw [q]; exact hD), x.2.1⟩
  exact {
    len := ok.len
    val := fun i d e n => by
      obtain ⟨v, h1, h2⟩ := ok1.val i d e n
      exact ⟨v, h1, (h2.mono (zr i)).fr (Fr.of_same up)⟩
    own := fun i d e n => by
      obtain ⟨q, h1, h2, h3, h4⟩ := ok1.own i d e n
      have nq : q ≠ Dn := fun z => h2.there (by rw [z]; exact hD)
      exact ⟨q, h1, (h2.mono (zr i)).fr (up q) (Fr.of_same up), h3, fun x => (if_neg nq).trans (h4 x)⟩
    io := ok.io
    ioall := ok.ioall
    apart := ok.apart
    base := fun a u n h => by
      have h' : (if a = Dn then some o else G.H0 a) = some u := h
      by_cases q : a = Dn
      · rw [if_pos q] at h'; cases h'; rw [q]; exact ⟨_, upd_same, .refl _⟩
      · rw [if_neg q] at h'
        obtain ⟨o1, e1, u1⟩ := ok.base a u n h'
        exact ⟨o1, up a o1 e1, u1⟩
    tab := ok.tab.ext up
    dom := fun a h => by
      show (if a = Dn then some o else G.H0 a) = none
      by_cases q : a = Dn
      · subst q; rw [upd_same] at h; cases h
      · rw [if_neg q]; exact ok.dom a (upd_dom a h)
    ap := fun i a h x => ok.ap i a h x.1
    hold := fun x q => x.mono _ _ _ (x.fr _ _ _ (ok1.hold x q) (Fr.of_same up)) (zr _)
    ex := ok.ex }
theorem EnvOk.at (ok : EnvOk K g (G.tmp p o) B σ H env) (n : ∀ i, (i, p) ∉ G.pa) (nt : ∀ ps, o ≠ .tbl ps) : H p = some o := by
  obtain ⟨o1, e1, u1⟩ := ok.base p o n (by show (if p = p then some o else G.H0 p) = some o; rw [if_pos rfl])
  rw [e1, u1.eq nt]
/-- .. goes on -/
theorem EnvOk.goOn {Dn : Addr} {o o' : HO} (ok : EnvOk K g (G.tmp Dn o) B σ H env) (n : ∀ i, (i, Dn) ∉ G.pa) (so : ¬ Stay o) (nt : ∀ ps, o ≠ .tbl ps) : EnvOk K g (G.tmp Dn o') B σ (upd H Dn o') env := by
  have hD := ok.at n nt
  have zz : ∀ a, Zr (G.tmp Dn o) g env σ a → Zr (G.tmp Dn o') g env σ a := fun a h => tmp_zr (zr_tmp a h).1 (zr_tmp a h).2
  have nz : ∀ a, Zr (G.tmp Dn o) g env σ a → a ≠ Dn := fun a h => (zr_tmp a h).2
  have fr : ∀ (R : Reg), (∀ a, R a → a ≠ Dn) → Fr R H (upd H Dn o') := fun R hR a u h e => by
    have ne : a ≠ Dn := by
      rcases h with h | h
      · exact hR a h
      · rintro rfl; rw [hD] at e; cases e; exact so h
    exact ⟨u, by rw [upd_ne ne]; exact e, Vary.refl _⟩
  exact {
    len := ok.len
    val := fun i d e n => by
      obtain ⟨v, h1, h2⟩ := ok.val i d e n
      exact ⟨v, h1, (h2.fr (fr _ fun a x => nz a x.1)).mono fun a x => ⟨zz a x.1, x.2⟩⟩
    own := fun i d e m => by
      obtain ⟨q, h1, h2, h3, h4⟩ := ok.own i d e m
      have nq : q ≠ Dn := by
        rintro rfl
        by_cases hio : i ∈ g.io
        · exact n i (h3 hio)
        · have h5 : (if q = q then some o else G.H0 q) = none := h4 hio
          rw [if_pos rfl] at h5; cases h5
      refine ⟨q, h1, (h2.fr (fun u hu => by rw [upd_ne nq]; exact hu) (fr _ fun a x => nz a x.1)).mono fun a x => ⟨zz a x.1, x.2⟩, h3, fun hio => ?_⟩
      have h5 : (if q = Dn then some o else G.H0 q) = none := h4 hio
      rw [if_neg nq] at h5
      exact (if_neg nq).trans h5
    io := ok.io
    ioall := ok.ioall
    apart := ok.apart
    base := fun a u m h => by
      have h' : (if a = Dn then some o' else G.H0 a) = some u := h
      by_cases q : a = Dn
      · rw [if_pos q] at h'; cases h'; rw [q]; exact ⟨_, upd_same, .refl _⟩
      · rw [if_neg q] at h'; rw [upd_ne q]; exact ok.base a u m ((if_neg q).trans h')
    tab := by
      have e := ok.at n nt
      refine tabs_upd ok.tab (fun ps z => nt ps (Option.some.inj (e.symm.trans z))) fun c q z => so ?_
      rw [Option.some.inj (e.symm.trans z)]; exact trivial
    dom := fun a h => by
      show (if a = Dn then some o' else G.H0 a) = none
      by_cases q : a = Dn
      · subst q; rw [upd_same] at h; cases h
      · rw [upd_ne q] at h
        have h5 : (if a = Dn then some o else G.H0 a) = none := ok.dom a h
        rw [if_neg q] at h5
        rw [if_neg q]; exact h5
    ap := ok.ap
    hold := fun x q => x.mono _ _ _ (x.fr _ _ _ (ok.hold x q) (fr _ fun a x => nz a x.1)) fun a z => ⟨zz a z.1, z.2⟩
    ex := ok.ex }
/-- .. and is done -/
theorem EnvOk.done {Dn : Addr} {o : HO} (ok : EnvOk K g (G.tmp Dn o) B σ H env) (hD : G.H0 Dn = none) (ap : ∀ i a, (i, a) ∈ G.pa → ¬ G.A a) : EnvOk K g G B σ H env := by
  have zr : ∀ a, Zr (G.tmp Dn o) g env σ a → Zr G g env σ a := fun a h => (zr_tmp a h).1
  exact {
    len := ok.len
    val := fun i d e n => by
      obtain ⟨v, h1, h2⟩ := ok.val i d e n
      exact ⟨v, h1, h2.mono fun a x => ⟨zr a x.1, x.2⟩⟩
    own := fun i d e m => by
      obtain ⟨q, h1, h2, h3, h4⟩ := ok.own i d e m
      refine ⟨q, h1, h2.mono fun a x => ⟨zr a x.1, x.2⟩, h3, fun hio => ?_⟩
      have h5 : (if q = Dn then some o else G.H0 q) = none := h4 hio
      split at h5
      · cases h5
      · exact h5
    io := ok.io
    ioall := ok.ioall
    apart := ok.apart
    base := fun a u m h => by
      have ne : a ≠ Dn := fun q => by rw [q, hD] at h; cases h
      exact ok.base a u m ((if_neg ne).trans h)
    tab := ok.tab
    dom := fun a h => by
      have h5 : (if a = Dn then some o else G.H0 a) = none := ok.dom a h
      split at h5
      · cases h5
      · exact h5
    ap := ap
    hold := fun x q => x.mono _ _ _ (ok.hold x q) fun a z => ⟨zr a z.1, z.2⟩
    ex := ok.ex }
end
/-! ### [elt for tg in iter if test] -/
def goComp (wl : List Nat) (ft : GT) (fc : TF) (fe : EF) : List D → Env → Option (List D × Env)
  | [], env => some ([], env)
  | d :: ds, env => match ft d env with
    | none => none
    | some e1 => match fc e1 with
      | some (.b true, e2) => match fe e2 with
        | some (.val y, e3) => match goComp wl ft fc fe ds (wipeE e3 wl) with
          | some (ys, e4) => some (y :: ys, e4)
          | none => none
        | _ => none
      | some (.b false, e2) => goComp wl ft fc fe ds (wipeE e2 wl)
      | _ => none
def fComp (wl : List Nat) (fi : IF) (ft : GT) (fc : TF) (fe : EF) : EF := fun env => match fi env with
  | some (.exc C d, e) => some (.exc C d, e)
  | some (.items ds, e) => match goComp wl ft fc fe ds (wipeE e wl) with
    | some (ys, e2) => if ys.length ≤ 16777216 then some (.val (.lst ys), e2) else none
    | none => none
  | none => none
def fYes : TF := fun env => some (.b true, env)
def DTs (X : Cx) (g : Cfg) (es : List Expr) (f : TF) : Prop := PTs X es (DTr X.K g W0 f)
theorem dts_nil {X : Cx} {g : Cfg} : DTs X g [] fYes := ⟨fun pins s σ H Q I ⟨G, B, env, r, env', ok, e, q⟩ => pts_nil.run pins s σ H Q I (by cases e; exact q H (Stp.refl ok))⟩
theorem dts_one {X : Cx} {g : Cfg} {c : Expr} {f : TF} (h : DT X g W0 c f) : DTs X g [c] f := pts_one h
section
variable {X : Cx} {g : Cfg} {W : WX} {tn' : Bool} {elt tg iter : Expr} {ifs : List Expr} {scope : Scope} {own : List (Str × Nat)} {pos : Pos} {fi : IF} {ft : GT} {fc : TF} {fe : EF}
/-- a block's turn over: back to the start's slots -/
theorem EnvOk.turn {K : PySem.W.Frag} {G : Gnd} {B : Nat → Reg} {σ σ2 : St} {H : Hp} {env : Env} {wl : List Nat} (ok : EnvOk K g G B σ2 H env) (hw : ∀ i ∈ wl, i ∉ g.io) (hxw : ∀ x ∈ g.ex, x.1 ∉ wl) (e : wipe σ2 wl = wipe σ wl) : EnvOk K g G B (wipe σ wl) H (wipeE env wl) := by
  refine (ok.dropL hw).sig ?_ (fun i d h => ?_) fun x m => ?_
  · rw [← e, wipe_length]
  · have n := (wipeE_get h).2
    rw [← e, wipe_out n]
  · rw [← e, wipe_out (hxw x m)]
theorem live_wipeE {env : Env} {σ : St} {wl : List Nat} (a : Addr) (l : Live g (wipeE env wl) σ a) : Live g env σ a := by
  obtain ⟨i, d, h1, h2, h3⟩ := l
  exact ⟨i, d, h1, (wipeE_get h2).1, h3⟩
theorem live_wipe {env : Env} {σ : St} {wl : List Nat} (a : Addr) (l : Live g env (wipe σ wl) a) : Live g env σ a := by
  obtain ⟨i, d, h1, h2, h3⟩ := l
  exact ⟨i, d, h1, h2, (wipe_some h3).1⟩
theorem wipe_at : ∀ {wl : List Nat} {σ : St} {i : Nat}, i ∈ wl → i < σ.length → (wipe σ wl)[i]? = some none
  | [], _, _, h, _ => nomatch h
  | j :: wl, σ, i, h, hl => by
    show ((wipe σ wl).set j none)[i]? = some none
    by_cases q : i = j
    · subst q
      rw [List.getElem?_set, if_pos rfl, if_pos (by rw [wipe_length]; exact hl)]
    · rw [set_get_ne q]
      exact wipe_at ((List.mem_cons.mp h).resolve_left q) hl
theorem wipe_off {wl : List Nat} {σ σ2 : St} (o : Off wl (wipe σ wl) σ2) : wipe σ2 wl = wipe σ wl := by
  have hl : σ2.length = σ.length := by rw [o.1, wipe_length]
  apply List.ext_getElem?
  intro i
  by_cases hi : i ∈ wl
  · by_cases hlt : i < σ.length
    · rw [wipe_at hi hlt, wipe_at hi (by rw [hl]; exact hlt)]
    · rw [List.getElem?_eq_none (by rw [wipe_length]; omega), List.getElem?_eq_none (by rw [wipe_length]; omega)]
  · rw [wipe_out hi, o.2 i hi]
theorem EnvOk.monoBs {K : PySem.W.Frag} {G : Gnd} {B B' : Nat → Reg} {σ : St} {H : Hp} {env : Env} (ok : EnvOk K g G B σ H env) (m : ∀ (i : Nat) (d : D), env[i]? = some (some d) → ∀ a, B i a → B' i a) (mh : ∀ a, B 16777216 a → B' 16777216 a) : EnvOk K g G B' σ H env where
  len := ok.len
  val i d e n := by
    obtain ⟨v, h1, h2⟩ := ok.val i d e n
    exact ⟨v, h1, h2.mono fun a x => ⟨x.1, m i d e a x.2⟩⟩
  own i d e n := by
    obtain ⟨q, h1, h2, h3⟩ := ok.own i d e n
    exact ⟨q, h1, h2.mono fun a x => ⟨x.1, m i d e a x.2⟩, h3⟩
  io := ok.io
  ioall := ok.ioall
  apart := ok.apart
  base := ok.base
  tab := ok.tab
  dom := ok.dom
  ap := ok.ap
  hold h q := h.mono _ _ _ (ok.hold h q) fun a x => ⟨x.1, mh a x.2⟩
  ex := ok.ex
theorem wiped_end {wl : List Nat} {ft : GT} {fc : TF} {fe : EF} : ∀ {ds : List D} {env env' : Env} {ys : List D}, goComp wl ft fc fe ds env = some (ys, env') → (∀ (i : Nat) (d : D), env[i]? = some (some d) → i ∉ wl) → ∀ {i : Nat} {d : D}, env'[i]? = some (some d) → i ∉ wl
  | [], env, env', ys, e, h, i, d, hi => by cases e; exact h i d hi
  | d :: ds, env, env', ys, e, h, i, di, hi => by
    unfold goComp at e
    cases e1 : ft d env with
    | none => rw [e1] at e; cases e
    | some env1 =>
      rw [e1] at e
      simp only at e
      cases e2 : fc env1 with
      | none => rw [e2] at e; cases e
      | some re2 =>
        obtain ⟨r2, env2⟩ := re2
        rw [e2] at e
        cases r2 with
        | exc C d => cases e
        | b bb =>
          cases bb with
          | false => exact wiped_end e (fun i d h => (wipeE_get h).2) hi
          | true =>
            simp only at e
            cases e3 : fe env2 with
            | none => rw [e3] at e; cases e
            | some re3 =>
              obtain ⟨r3, env3⟩ := re3
              rw [e3] at e
              cases r3 with
              | slot i => cases e
              | exc C d => cases e
              | val y =>
                simp only at e
                cases e4 : goComp wl ft fc fe ds (wipeE env3 wl) with
                | none => rw [e4] at e; cases e
                | some yz =>
                  obtain ⟨ys4, env4⟩ := yz
                  rw [e4] at e
                  cases e
                  exact wiped_end e4 (fun i d h => (wipeE_get h).2) hi
theorem comp_rd (hw : ∀ i ∈ own.map (·.2), i ∉ g.io) (hwo : ∀ i ∈ own.map (·.2), i ∉ g.own) (h16 : 16777216 ∉ own.map (·.2)) (hxw : ∀ x ∈ g.ex, x.1 ∉ own.map (·.2)) {σ : St} {H : Hp} {Q : VK} (h : DEr X.K g W true (fComp (own.map (·.2)) fi ft fc fe) σ H Q) :
    tLc (DIr X.K g W fi) (DGr X.K g (own.map (·.2)) ft) (DTr X.K g W0 fc) (DEr X.K g W0 tn' fe) (own.map (·.2)) σ H Q := by
  obtain ⟨G, B, env, r0, env', ok, ee, kv, kx⟩ := h.out
  generalize hwl : own.map (·.2) = wl at *
  unfold fComp at ee
  cases e1 : fi env with
  | none => rw [e1] at ee; cases ee
  | some re =>
    obtain ⟨r, env1⟩ := re
    rw [e1] at ee
    refine ⟨G, B, env, r, env1, ok, e1, ?_⟩
    cases r with
    | exc C d => cases ee; exact fun a H' s ha => kx C d rfl a H' s ha
    | items ds =>
      simp only at ee
      cases e2 : goComp wl ft fc fe ds (wipeE env1 wl) with
      | none => rw [e2] at ee; cases ee
      | some yz =>
        obtain ⟨ys, env2⟩ := yz
        rw [e2] at ee
        simp only at ee
        split at ee
        · rename_i hlen
          cases ee
          intro J hd H1 s hP go Dn hD
          -- B is wide at the block's names, whose slots hold nothing ahead of it
          let B' : Nat → Reg := fun i a => i ∈ wl ∨ B i a
          have npa : ∀ i, (i, Dn) ∉ G.pa := fun i hi => by
            obtain ⟨_, ho, hs, d, he⟩ := s.ok.io i Dn hi
            obtain ⟨q, h1, h2, _⟩ := s.ok.own i d he ho
            rw [hs] at h1; cases h1
            exact h2.there hD
          have ok1 : EnvOk X.K g G B' (wipe σ wl) H1 (wipeE env1 wl) := (s.ok.turn (σ := σ) hw hxw rfl).monoB fun i a x => .inr x
          have ok2 := ok1.begin hD (.lst [])
          have hp0 : hd.P (upd H1 Dn (.lst [])) (Zr (G.tmp Dn (.lst [])) g (wipeE env1 wl) (wipe σ wl)) := by
            refine hd.mono _ _ _ (hd.fr _ _ _ (hd.alloc _ _ hP) (Fr.of_same (upd_same_of hD))) fun a x => ?_
            refine tmp_zr ⟨x.1.1, fun l => x.1.2 (live_wipeE a (live_wipe a l))⟩ fun q => x.2 (by rw [q]; exact hD)
          refine ⟨fun i m H => m = ds.length - i ∧ i ≤ ds.length ∧ ∃ envi vacc yacc yrest, EnvOk X.K g (G.tmp Dn (.lst vacc)) B' (wipe σ wl) H envi ∧ Reps X.K H (Zr (G.tmp Dn (.lst vacc)) g envi (wipe σ wl)) vacc yacc ∧ hd.P H (Zr (G.tmp Dn (.lst vacc)) g envi (wipe σ wl)) ∧
            goComp wl ft fc fe (ds.drop i) envi = some (yrest, env') ∧ ys = yacc ++ yrest ∧ Fr (fun a => ¬ Live g env1 σ a) H1 H ∧ (∀ a, Live g envi (wipe σ wl) a → Live g env1 σ a) ∧ (∀ a, H a = none → H1 a = none),
            ⟨_, rfl, Nat.zero_le _, _, [], [], ys, ok2, .nil, hp0, by simpa using e2, by simp, Fr.of_same (upd_same_of hD), fun a l => live_wipeE a (live_wipe a l), upd_dom⟩, ?_⟩
          rintro i m H2 ⟨rfl, hle, envi, vacc, yacc, yrest, oki, racc, hPi, ei, ey, fri, lvi, dmi⟩
          by_cases hi : i < ds.length
          · refine .inr ⟨go.go i H2 _ hPi hi, fun H' => ∃ envi vacc yacc yrest, EnvOk X.K g (G.tmp Dn (.lst vacc)) B' (wipe σ wl) H' envi ∧ Reps X.K H' (Zr (G.tmp Dn (.lst vacc)) g envi (wipe σ wl)) vacc yacc ∧ hd.P H' (Zr (G.tmp Dn (.lst vacc)) g envi (wipe σ wl)) ∧
              goComp wl ft fc fe (ds.drop (i + 1)) envi = some (yrest, env') ∧ ys = yacc ++ yrest ∧ Fr (fun a => ¬ Live g env1 σ a) H1 H' ∧ (∀ a, Live g envi (wipe σ wl) a → Live g env1 σ a) ∧ (∀ a, H' a = none → H1 a = none),
              fun H' ⟨envi, a, b, c, z⟩ => ⟨ds.length - (i + 1), by omega, rfl, by omega, envi, a, b, c, z⟩, ?_⟩
            intro x H3 hy
            obtain ⟨ex, d, hdd, rd⟩ := go.yld i H2 _ x H3 (fun a ha => oki.fresh ha) hPi hi hy
            rw [drop_cons hdd] at ei
            unfold goComp at ei
            cases e3 : ft d envi with
            | none => rw [e3] at ei; cases ei
            | some env3 =>
              rw [e3] at ei
              simp only at ei
              have ok3 := oki.step ex
              have d3 : ∀ a, H3 a = none → H2 a = none := fun a h => by
                cases q : H2 a with
                | none => rfl
                | some o => rw [ex a o q] at h; cases h
              have fr3 : Fr (fun a => ¬ Live g env1 σ a) H1 H3 := fri.trans (Fr.of_same ex) fun _ x => x
              refine ⟨G.tmp Dn (.lst vacc), B', envi, d, env3, ok3, fun i hi a => .inl hi, rd, e3, fun σ2 ok4 zr4 off eoff => ?_⟩
              have ew : wipe σ2 wl = wipe σ wl := wipe_off off
              have lv4 : ∀ a, Live g env3 σ2 a → Live g envi (wipe σ wl) a := by
                rintro a ⟨i', d', h1, h2, h3⟩
                have ni : i' ∉ wl := fun z => hwo i' z h1
                have hs : (wipe σ wl)[i']? = some (some (.ref a)) := by rw [← off.2 i' ni]; exact h3
                exact ⟨i', d', h1, by rw [← eoff i' ni]; exact h2, hs⟩
              refine ⟨ew, ?_⟩
              -- an element or none, then the next turn
              have back : ∀ {H4 : Hp} {env4 : Env}, Stp X.K g (G.tmp Dn (.lst vacc)) B' σ2 H3 env3 H4 env4 → hd.P H4 (Zr (G.tmp Dn (.lst vacc)) g (wipeE env4 wl) (wipe σ wl)) ∧ Reps X.K H4 (Zr (G.tmp Dn (.lst vacc)) g (wipeE env4 wl) (wipe σ wl)) vacc yacc ∧ Fr (fun a => ¬ Live g env1 σ a) H1 H4 ∧
                  (∀ a, Live g (wipeE env4 wl) (wipe σ wl) a → Live g env1 σ a) ∧ (∀ a, Live g (wipeE env4 wl) (wipe σ wl) a → Live g env4 σ2 a) ∧ (∀ a, H4 a = none → H1 a = none) := fun {H4 env4} s4 => by
                have lw : ∀ a, Live g (wipeE env4 wl) (wipe σ wl) a → Live g env4 σ2 a := by
                  rintro a ⟨i', d', h1, h2, h3⟩
                  obtain ⟨h4, h5⟩ := wipeE_get h2
                  exact ⟨i', d', h1, h4, by rw [← ew] at h3; exact (wipe_some h3).1⟩
                have zz : ∀ a, Zr (G.tmp Dn (.lst vacc)) g envi (wipe σ wl) a → Zr (G.tmp Dn (.lst vacc)) g (wipeE env4 wl) (wipe σ wl) a := fun a ⟨x, n⟩ => ⟨x, fun l => n (lv4 a (s4.live a (lw a l)))⟩
                have fz : Fr (fun a => Zr (G.tmp Dn (.lst vacc)) g envi (wipe σ wl) a) H2 H4 := (Fr.of_same ex).trans (s4.fr.mono (R' := fun a => Zr (G.tmp Dn (.lst vacc)) g envi (wipe σ wl) a) fun a x l => x.2 (lv4 a l)) fun _ x => x
                exact ⟨hd.mono _ _ _ (hd.fr _ _ _ hPi fz) zz, (racc.fr fz).mono zz, fr3.trans s4.fr fun a n l => n (lvi a (lv4 a l)), fun a l => lvi a (lv4 a (s4.live a (lw a l))), lw, fun a h => dmi a (d3 a (s4.dom a h))⟩
              cases e5 : fc env3 with
              | none => rw [e5] at ei; cases ei
              | some re5 =>
                obtain ⟨r5, env5⟩ := re5
                rw [e5] at ei
                cases r5 with
                | exc C d => cases ei
                | b bb =>
                  refine DTr.intro ok4 e5 (fun x er H5 s5 => ?_) (fun C d er => nomatch er)
                  cases er
                  cases bb with
                  | false =>
                    rw [if_neg (fun z => nomatch z)]
                    obtain ⟨b1, b2, b3, b4, _, b6⟩ := back s5
                    exact ⟨wipeE env5 wl, vacc, yacc, yrest, s5.ok.turn hw hxw ew, b2, b1, ei, ey, b3, b4, b6⟩
                  | true =>
                    rw [if_pos rfl]
                    simp only at ei
                    cases e6 : fe env5 with
                    | none => rw [e6] at ei; cases ei
                    | some re6 =>
                      obtain ⟨r6, env6⟩ := re6
                      rw [e6] at ei
                      cases r6 with
                      | slot i => cases ei
                      | exc C d => cases ei
                      | val y =>
                        simp only at ei
                        cases e7 : goComp wl ft fc fe (List.drop (i + 1) ds) (wipeE env6 wl) with
                        | none => rw [e7] at ei; cases ei
                        | some yz7 =>
                          obtain ⟨ys7, env7⟩ := yz7
                          rw [e7] at ei
                          cases ei
                          refine DEr.intro s5.ok e6 (fun yv H6 s6 l6 _ => ?_) (fun C d er => nomatch er)
                          have s56 := s5.trans s6
                          obtain ⟨b1, b2, b3, b4, lw, b6⟩ := back s56
                          have okt := s56.ok.turn hw hxw ew
                          have hDn : H6 Dn = some (.lst vacc) := okt.at npa (fun _ z => nomatch z)
                          have hl : vacc.length < sizeLine := by
                            rw [racc.len, sizeLine_eq]
                            have : ys.length = yacc.length + (ys7.length + 1) := by rw [ey]; simp
                            omega
                          refine ⟨vacc, hDn, hl, wipeE env6 wl, vacc ++ [yv], yacc ++ [y], ys7, ?_⟩
                          have so : ¬ Stay (.lst vacc) := fun z => z
                          have fD : ∀ (R : Reg), (∀ a, R a → a ≠ Dn) → Fr R H6 (upd H6 Dn (.lst (vacc ++ [yv]))) := fun R hR a u h e => by
                            have ne : a ≠ Dn := by
                              rcases h with h | h
                              · exact hR a h
                              · rintro rfl; rw [hDn] at e; cases e; exact so h
                            exact ⟨u, by rw [upd_ne ne]; exact e, Vary.refl _⟩
                          have zg : ∀ a, Zr (G.tmp Dn (.lst vacc)) g (wipeE env6 wl) (wipe σ wl) a → Zr (G.tmp Dn (.lst (vacc ++ [yv]))) g (wipeE env6 wl) (wipe σ wl) a := fun a h => tmp_zr (zr_tmp a h).1 (zr_tmp a h).2
                          have y6 : Rep X.K H6 (Zr (G.tmp Dn (.lst vacc)) g (wipeE env6 wl) (wipe σ wl)) yv y := Rep.mono (fun a ⟨x, n⟩ => ⟨x, fun l => n (lw a l)⟩) l6
                          refine ⟨okt.goOn npa so (fun _ z => nomatch z), ?_, ?_, e7, by rw [ey]; simp, ?_, fun a l => b4 a l, fun a h => b6 a (upd_dom a h)⟩
                          · exact ((b2.append (.cons y6 .nil)).fr (fD _ fun a h => (zr_tmp a h).2)).mono zg
                          · exact hd.mono _ _ _ (hd.fr _ _ _ b1 (fD _ fun a h => (zr_tmp a h).2)) zg
                          · intro a u h e
                            obtain ⟨u', h1, h2⟩ := b3 a u h e
                            have ne : a ≠ Dn := fun q => by rw [q, hD] at e; cases e
                            exact ⟨u', by rw [upd_ne ne]; exact h1, h2⟩
          · have : i = ds.length := by omega
            subst this
            rw [List.drop_length] at ei
            cases ei
            refine .inl ⟨go.stop H2 _ hPi, ?_⟩
            rw [List.append_nil] at ey
            subst ey
            have hDn : H2 Dn = some (.lst vacc) := oki.at npa (fun _ z => nomatch z)
            have okd := (oki.done (s.ok.dom Dn hD) s.ok.ap)
            have oks : EnvOk X.K g G B' σ H2 env' := okd.sig (by rw [wipe_length]) (fun i d h => by
              obtain ⟨v, hv⟩ : ∃ v, (wipe σ wl)[i]? = some (some v) := by
                by_cases ho : i ∈ g.own
                · obtain ⟨q, h1, _⟩ := okd.own i d h ho; exact ⟨_, h1⟩
                · obtain ⟨q, h1, _⟩ := okd.val i d h ho; exact ⟨_, h1⟩
              rw [hv]; exact (wipe_some hv).1) fun x m => (wipe_out (hxw x m)).symm
            have nwl : ∀ (i : Nat) (d : D), env'[i]? = some (some d) → i ∉ wl := fun i d h => wiped_end e2 (fun i d h => (wipeE_get h).2) h
            have okB : EnvOk X.K g G B σ H2 env' := oks.monoBs (fun i d h a x => x.resolve_left (nwl i d h)) fun a x => x.resolve_left h16
            have lvs : ∀ a, Live g env' σ a → Live g env1 σ a := fun a l => lvi a (by
              obtain ⟨i, d, h1, h2, h3⟩ := l
              refine ⟨i, d, h1, h2, ?_⟩
              rw [wipe_out (nwl i d h2)]; exact h3)
            have sf : Stp X.K g G B σ H1 env1 H2 env' := ⟨okB, fri, lvs, dmi⟩
            have zD : Zr G g env' σ Dn := sf.zr Dn (s.ok.fresh hD)
            refine kv _ H2 (s.trans sf) (.lst zD hDn (racc.mono fun a h => ?_)) fun d hd _ p hp => ?_
            · obtain ⟨h1, h2⟩ := zr_tmp a h
              refine ⟨⟨h1.1, fun l => h1.2 ?_⟩, h2⟩
              obtain ⟨i, d, g1, g2, g3⟩ := l
              refine ⟨i, d, g1, g2, ?_⟩
              rw [wipe_out (nwl i d g2)]; exact g3
            · cases hp
              exact ⟨s.dom _ hD, fun o u z => by rw [hDn] at z; cases z⟩
        · cases ee
end
end GR
/-! GP -/
set_option linter.all false
set_option maxRecDepth 100000
/-! Attributes, methods, properties, instances made; calls by keywords. -/
namespace GR
open PySem L2
variable [TabT]
section
variable {X : Cx} {CX : CXT} {k : Nat} {f C p0 : Addr} {fd : FuncData} {ps ks : List Str} {sp : Sp} {E : L2.St → XK} {x m : Str} {p pos apos : Pos} {e o : Expr} {es : List Expr} {kws : List Keyword} {ta : TE} {t tk : TA}
/-- o.m(..): the receiver, then the arguments -/
def tMethS (C : Addr) (m : Str) (sp : Sp) (E : L2.St → XK) (ta : TE) (t : TA) : TE := fun σ H Q => ta σ H fun x H1 => ∃ a dx fs, x = .ref a ∧ H1 a = some (.ins C dx fs) ∧ fs.lookup m = none ∧ t σ H1 fun vs H2 => sp (x :: vs) H2 Q (E σ)
theorem run_fnG' {pins : List (Addr × Obj)} {σ : L2.St} {H : Hp} {s : Shared} {Q : VK} {us : List Value} {vs : List V} (F : FnG X.prog X.w X.K X.mg X.base CX k f fd ps sp) (hr : RoomG k X.A) (hb : Binds X.K fd ps []) (hx : PassesAt CX X σ (E σ))
    (I : Inv X pins σ H s) (r : Vals vs us) (h : sp vs H Q (E σ)) : wpAny (model X.prog X.w) X.A (call (.ref f) us) (EP X pins σ Q) X.xe s := by
  have hl : us.length = ps.length := r.length.symm.trans (F.len _ _ _ _ h)
  have b := hb s us I.kIn (by rw [List.append_nil]; exact hl)
  rw [List.append_nil] at b
  exact wpAny_call (run_fnG F hr b hx I r h)
theorem pe_methG {pl : Sem Bool} (he : PE X o ta) (c : Cls X.K C) (hm : Meth X.K C m f) (F : FnG X.prog X.w X.K X.mg X.base CX k f fd ps sp) (hr : RoomG k X.A) (hb : Binds X.K fd ps []) (hx : ∀ σ, PassesAt CX X σ (E σ)) (ha : PA X (e :: es) t)
    (hst : starEach (e :: es) X.env = (false, eval e X.env) :: starEach es X.env := by rfl) (hpl : (backTo pos (starEach es X.env)).any (·.1) = false := by rfl)
    (ht : eval (.Call (.Attribute o m apos) (e :: es) [] pos) X.env = (do let ov ← eval o X.env; standAt apos.atName; let (f, first) ← holding [ov] (getMethod ov m pl); callWith pos f first (backTo pos (starEach (e :: es) X.env)) (backToKw pos (keywordEach [] X.env))) := by rfl) :
    PE X (.Call (.Attribute o m apos) (e :: es) [] pos) (tMethS C m sp E ta t) where
  run pins s σ H Q I h := by
    refine PySem.W.methodCall_KW (pl := pl) (thn (he.run pins s σ H _ I h) ?_) ht
    intro u s1 h1
    obtain ⟨x, H1, I1, rx, a, dx, fs, ex, ea, l, q⟩ := h1
    subst ex
    obtain rfl : u = Value.ref a := rx
    refine getmeth_ok I1 ea c hm l ?_
    refine PySem.W.callWith_K (first := [.ref a]) (h₀ := X.base) I.ok.mod.kin hm.kp (thn (ha.run pos pins s1 σ H1 _ I1 q) ?_) hst hpl
    intro us s2 h2
    obtain ⟨vs, H2, I2, r, q2⟩ := h2
    exact ⟨I2.kIn, run_fnG' (us := .ref a :: us) F hr hb (hx σ) I2 (.cons (show RelV (.ref a) (.ref a) from rfl) r) q2⟩
theorem pe_methG0 {pl : Sem Bool} (he : PE X o ta) (c : Cls X.K C) (hm : Meth X.K C m f) (F : FnG X.prog X.w X.K X.mg X.base CX k f fd ps sp) (hr : RoomG k X.A) (hb : Binds X.K fd ps []) (hx : ∀ σ, PassesAt CX X σ (E σ))
    (ht : eval (.Call (.Attribute o m apos) [] [] pos) X.env = (do let ov ← eval o X.env; standAt apos.atName; let (f, first) ← holding [ov] (getMethod ov m pl); callWith pos f first (backTo pos (starEach [] X.env)) (backToKw pos (keywordEach [] X.env))) := by rfl) :
    PE X (.Call (.Attribute o m apos) [] [] pos) (tMethS C m sp E ta tNil) where
  run pins s σ H Q I h := by
    refine PySem.W.methodCall_KW (pl := pl) (thn (he.run pins s σ H _ I h) ?_) ht
    intro u s1 h1
    obtain ⟨x, H1, I1, rx, a, dx, fs, ex, ea, l, q⟩ := h1
    subst ex
    obtain rfl : u = Value.ref a := rx
    refine getmeth_ok I1 ea c hm l ?_
    exact PySem.W.callWith_K0 (first := [.ref a]) I1.kIn hm.kp (run_fnG' (us := [.ref a]) F hr hb (hx σ) I1 (.cons (show RelV (.ref a) (.ref a) from rfl) .nil) q)
/-- a property, read -/
theorem pe_propG (he : PE X e ta) (c : Cls X.K C) (hp : PropOf X.K C m p0 f) (F : FnG X.prog X.w X.K X.mg X.base CX k f fd ps sp) (hr : RoomG (k + 1) X.A) (hb : Binds X.K fd ps []) (hx : Passes CX X.nox (fun _ _ _ => False))
    (hab : attributeBase e m X.env (eval e X.env) = eval e X.env := by rfl) : PE X (.Attribute e m pos) (tProp C sp [] (fun _ _ _ => False) ta) where
  run pins s σ H Q I h := by
    refine attr_of hab (thn (he.run pins s σ H _ I h) ?_)
    intro u s1 h1
    obtain ⟨x, H1, I1, rx, a, dx, fs, ex, ea, q⟩ := h1
    subst ex
    obtain rfl : u = Value.ref a := rx
    obtain ⟨mA, O, _⟩ := ins_get I1.hok ea
    obtain ⟨od, J, _⟩ := O.look
    obtain ⟨rest, hrec⟩ := hp.rec_
    have I2 := I1.tok (s1.toks + 1)
    have hl : ([Value.ref a] ++ []).length = ps.length := (F.len _ _ _ _ q)
    have hc : (PySem.W.clsIn X.K C).isSome = true := by
      obtain ⟨cd, hc, _⟩ := PySem.W.any_some c.hd
      rw [hc]; rfl
    have pg := PySem.W.plainGet_of (c.get m)
    refine PySem.W.get_bind I1.kIn J pg.1 (PySem.W.findObj_data hc hp.at_ hp.get hp.tak) pg.2 (wpAny_call (PySem.W.prop_get (s := { s1 with toks := s1.toks + 1 }) I1.kIn hrec ?_))
    refine codeAny_mono (F.run X.A.in1 X.stack { s1 with toks := s1.toks + 1 } H1 ⟨[.ref a], []⟩ [.ref a] [.ref a] Q (fun _ _ _ => False) hr.in1 I2.env0.in1 (hb _ [.ref a] I1.kIn hl) (.cons rfl .nil) q) ?_
    intro r s' hq
    cases r with
    | error er => exact (hx pins σ H1 { s1 with toks := s1.toks + 1 } er s' (I2.wish _) hq).elim
    | ok fl =>
      cases fl with
      | ret u =>
        obtain ⟨v, H', I3, rv, q3⟩ := I2.after hq
        show wpAny _ _ (handedOut u) _ _ _
        rw [PySem.W.handedOut_of (handed_of rv)]
        exact wpAny_pure ⟨v, H', I3, rv, q3⟩
      | next => exact hq.elim
      | brk => exact hq.elim
      | cont => exact hq.elim
/-- an instance made -/
def rMakeS (C : Addr) (sp : Sp) (E : XK) (full : V → List V) : Hp → VK → Prop := fun H Q => ∀ x dx, H x = none → H dx = none → dx ≠ x → sp (full (.ref x)) (upd (upd H dx (.own x)) x (.ins C dx [])) (fun v H2 => v = .non ∧ Q (.ref x) H2) E
theorem run_makeG {pins : List (Addr × Obj)} {σ : L2.St} {H : Hp} {s : Shared} {Q : VK} {us : List Value} {kw : List (Str × Value)} {full : V → List V} {fullU : Value → List Value} (M : Mk X.K C f) (F : FnG X.prog X.w X.K X.mg X.base CX k f fd ps sp) (hr : RoomG (k + 1) X.A)
    (hb : ∀ (s : Shared) (v : Value), X.K.In s.heap → (fullU v).length = ps.length → BindsTo s fd ⟨v :: us, kw⟩ (ps.zip (fullU v))) (hx : PassesAt CX X σ (E σ)) (I : Inv X pins σ H s) (r : ∀ x, Vals (full (.ref x)) (fullU (.ref x)))
    (h : rMakeS C sp (E σ) full H Q) : wpAny (model X.prog X.w) X.A (call (.ref C) us kw) (EP X pins σ Q) X.xe s := by
  have hq := h (s.heap.objs.size + 1) s.heap.objs.size (I.hok.fresh (Nat.le_succ _)) (I.hok.fresh (Nat.le_refl _)) (Nat.ne_of_lt (Nat.lt_succ_self _))
  have I2 := Inv.made (C := C) I
  have hl : (fullU (Value.ref (s.heap.objs.size + 1))).length = ps.length := (r _).length.symm.trans (F.len _ _ _ _ hq)
  refine wpAny_call (make_map (f := f) I.kIn M.makes M.init (beq_iff_eq.mp M.fn) (codeAny_mono (F.run _ X.stack _ _ _ (fullU (Value.ref (s.heap.objs.size + 1))) _ _ (E σ) (hr.make C us kw) (I2.env0.make C us kw) (hb _ _ I2.kIn hl) (r _) hq) ?_))
  intro r s' hq'
  cases r with
  | error e => exact hx pins _ _ e s' I2 hq'
  | ok fl =>
    cases fl with
    | ret u =>
      obtain ⟨v, H', I3, rv, ev, q3⟩ := I2.after hq'
      subst ev
      exact ⟨rv, ⟨V.ref (s.heap.objs.size + 1), H', I3, rfl, q3⟩⟩
    | next => exact hq'.elim
    | brk => exact hq'.elim
    | cont => exact hq'.elim
def tMakeS (C : Addr) (sp : Sp) (E : L2.St → XK) (t : TA) : TE := fun σ H Q => t σ H fun vs H1 => rMakeS C sp (E σ) (fun x => x :: vs) H1 Q
theorem pe_makeG (M : Mk X.K C f) (F : FnG X.prog X.w X.K X.mg X.base CX k f fd ps sp) (hr : RoomG (k + 1) X.A) (hg : Gl X x) (hm : X.mg x = some (.ref C)) (hb : Binds X.K fd ps []) (hx : ∀ σ, PassesAt CX X σ (E σ)) (ha : PA X (e :: es) t)
    (hdb : (x == ("__debug__" : Str)) = false := by decide) (he : starEach (e :: es) X.env = (false, eval e X.env) :: starEach es X.env := by rfl) (hpl : (backTo pos (starEach es X.env)).any (·.1) = false := by rfl) :
    PE X (.Call (.Name x p) (e :: es) [] pos) (tMakeS C sp E t) where
  run pins s σ H Q I h := by
    refine wpAny_Call_Name_kw (ld_glob I hg hm ?_ hdb)
    refine PySem.W.callWith_K (h₀ := X.base) I.ok.mod.kin M.kp (thn (ha.run pos pins s σ H _ I h) ?_) he hpl
    intro us s1 h1
    obtain ⟨vs, H1, I1, r, q⟩ := h1
    refine ⟨I1.kIn, ?_⟩
    refine run_makeG (fullU := fun v => v :: us) M F hr (fun s v hK hl => ?_) (hx σ) I1 (fun x => .cons (show RelV (.ref x) (.ref x) from rfl) r) q
    have b := hb s (v :: us) hK (by rw [List.append_nil]; exact hl)
    rw [List.append_nil] at b
    exact b
/-- C(k = v, ..): the keywords' values in the order of the text, put in the parameters' by per -/
def tMakeKS (C : Addr) (n : Nat) (per : {α : Type} → List α → List α) (sp : Sp) (E : L2.St → XK) (tk : TA) : TE := fun σ H Q => tk σ H fun zs H1 => zs.length = n ∧ rMakeS C sp (E σ) (fun x => x :: per zs) H1 Q
theorem pe_makeGK (per : {α : Type} → List α → List α) (M : Mk X.K C f) (F : FnG X.prog X.w X.K X.mg X.base CX k f fd ps sp) (hr : RoomG (k + 1) X.A) (hg : Gl X x) (hm : X.mg x = some (.ref C))
    (hper : ∀ {vs : List V} {us : List Value}, Vals vs us → Vals (per vs) (per us)) (hb : ∀ (s : Shared) (v : Value) (ws : List Value), X.K.In s.heap → ws.length = ks.length → BindsTo s fd ⟨[v], ks.zip ws⟩ (ps.zip (v :: per ws))) (hx : ∀ σ, PassesAt CX X σ (E σ)) (hkw : PK X kws tk)
    (hall : (backToKw pos (keywordEach kws X.env)).all (·.1.isSome) = true := by rfl) (hks : (backToKw pos (keywordEach kws X.env)).filterMap (·.1) = ks := by rfl) (hdb : (x == ("__debug__" : Str)) = false := by decide)
    (hpl : ((backTo pos (starEach [] X.env)).any (·.1) || (backToKw pos (keywordEach kws X.env)).any (·.1.isNone)) = false := by rfl) :
    PE X (.Call (.Name x p) [] kws pos) (tMakeKS C ks.length per sp E tk) where
  run pins s σ H Q I h := by
    refine wpAny_Call_Name_kw (ld_glob I hg hm ?_ hdb)
    refine PySem.W.callWith_KW0 (h₀ := X.base) I.ok.mod.kin M.kp hall ?_ hpl
    refine thn (hkw.run pos pins s σ H _ I h) ?_
    intro ws s2 h2
    obtain ⟨zs, H2, I2, rz, l1, q2⟩ := h2
    refine ⟨I2.kIn, ?_⟩
    rw [hks]
    exact run_makeG (us := []) (fullU := fun v => v :: per ws) M F hr (fun s v hK _ => hb s v ws hK (rz.length.symm.trans l1)) (hx σ) I2 (fun x => .cons (show RelV (.ref x) (.ref x) from rfl) (hper rz)) q2
/-- f(k = v, ..) -/
def tCallKS (n : Nat) (per : {α : Type} → List α → List α) (sp : Sp) (E : L2.St → XK) (tk : TA) : TE := fun σ H Q => tk σ H fun zs H1 => zs.length = n ∧ sp (per zs) H1 Q (E σ)
theorem pe_callGK (per : {α : Type} → List α → List α) (F : FnG X.prog X.w X.K X.mg X.base CX k f fd ps sp) (hr : RoomG k X.A) (hg : Gl X x) (hm : X.mg x = some (.ref f)) (hk : PySem.W.keepIn X.K (.ref f) = true)
    (hper : ∀ {vs : List V} {us : List Value}, Vals vs us → Vals (per vs) (per us)) (hb : ∀ (s : Shared) (ws : List Value), X.K.In s.heap → ws.length = ks.length → BindsTo s fd ⟨[], ks.zip ws⟩ (ps.zip (per ws))) (hx : ∀ σ, PassesAt CX X σ (E σ)) (hkw : PK X kws tk)
    (hall : (backToKw pos (keywordEach kws X.env)).all (·.1.isSome) = true := by rfl) (hks : (backToKw pos (keywordEach kws X.env)).filterMap (·.1) = ks := by rfl) (hdb : (x == ("__debug__" : Str)) = false := by decide)
    (hpl : ((backTo pos (starEach [] X.env)).any (·.1) || (backToKw pos (keywordEach kws X.env)).any (·.1.isNone)) = false := by rfl) :
    PE X (.Call (.Name x p) [] kws pos) (tCallKS ks.length per sp E tk) where
  run pins s σ H Q I h := by
    refine wpAny_Call_Name_kw (ld_glob I hg hm ?_ hdb)
    refine PySem.W.callWith_KW0 (h₀ := X.base) I.ok.mod.kin hk hall ?_ hpl
    refine thn (hkw.run pos pins s σ H _ I h) ?_
    intro ws s2 h2
    obtain ⟨zs, H2, I2, rz, l1, q2⟩ := h2
    refine ⟨I2.kIn, ?_⟩
    rw [hks]
    exact wpAny_call (run_fnG F hr (hb s2 ws I2.kIn (rz.length.symm.trans l1)) (hx σ) I2 (hper rz) q2)
end
end GR
/-! GQ -/
set_option linter.all false
set_option maxRecDepth 100000
/-! Attributes read and set, methods, properties, instances made. -/
namespace GR
open PySem L2
variable [TabT]
section
variable {K : PySem.W.Frag} {g : Cfg} {G : Gnd} {B B' : Nat → Reg} {H H' H1 H2 : Hp} {σ σ' : St} {env env' : Env} {p : Addr} {d d' : D} {v : V} {R L : Reg} {W : WX} {tn : Bool}
theorem lookup_rel {f : Str} : ∀ {fs : List (Str × V)} {gs : List (Str × D)} {d : D}, fs.map Prod.fst = gs.map Prod.fst → Reps K H R (fs.map Prod.snd) (gs.map Prod.snd) → gs.lookup f = some d → ∃ v, fs.lookup f = some v ∧ Rep K H R v d
  | [], [], _, _, _, e => nomatch e
  | [], _ :: _, _, h, _, _ => nomatch h
  | _ :: _, [], _, h, _, _ => nomatch h
  | (a, v) :: fs, (b, c) :: gs, d, h, r, e => by
    simp only [List.map_cons, List.cons.injEq] at h
    obtain ⟨h1, h2⟩ := h
    subst h1
    cases r with
    | cons r1 r2 =>
      by_cases q : f = a
      · subst q
        simp only [List.lookup, beq_self_eq_true] at e ⊢
        cases e
        exact ⟨v, rfl, r1⟩
      · have qb : (f == a) = false := by simpa using q
        simp only [List.lookup, qb] at e ⊢
        exact lookup_rel h2 r2 e
def putFD (f : Str) (d : D) : List (Str × D) → List (Str × D)
  | [] => [(f, d)]
  | (g, x) :: r => if g = f then (g, d) :: r else (g, x) :: putFD f d r
theorem putF_rel {f : Str} (rv : Rep K H R v d) : ∀ {fs : List (Str × V)} {gs : List (Str × D)}, fs.map Prod.fst = gs.map Prod.fst → Reps K H R (fs.map Prod.snd) (gs.map Prod.snd) → (putF f v fs).map Prod.fst = (putFD f d gs).map Prod.fst ∧ Reps K H R ((putF f v fs).map Prod.snd) ((putFD f d gs).map Prod.snd)
  | [], [], _, _ => ⟨rfl, .cons rv .nil⟩
  | [], _ :: _, h, _ => nomatch h
  | _ :: _, [], h, _ => nomatch h
  | (a, w) :: fs, (b, c) :: gs, h, r => by
    simp only [List.map_cons, List.cons.injEq] at h
    obtain ⟨h1, h2⟩ := h
    subst h1
    cases r with
    | cons r1 r2 =>
      unfold putF putFD
      by_cases q : a = f
      · rw [if_pos q, if_pos q]
        exact ⟨by simp [h2], .cons rv r2⟩
      · rw [if_neg q, if_neg q]
        obtain ⟨k1, k2⟩ := putF_rel rv h2 r2
        exact ⟨by simp [k1], .cons r1 k2⟩
end
/-! ### e.f -/
def gFld (C : Addr) (f : Str) : D → Option D
  | .ins C' gs => if C' = C then gs.lookup f else none
  | _ => none
section
variable {X : Cx} {g : Cfg} {W : WX} {tn ta tb : Bool} {e o : Expr} {fe fa fb : EF} {pos pos' pos2 : Pos} {f : Str} {C : Addr}
theorem de_fld (c : Cls X.K C) (n : NoAttr X.K C f) (he : DE X g W ta e fe) (hb : attributeBase e f X.env (eval e X.env) = eval e X.env := by rfl) : DE X g W false (.Attribute e f pos) (fOp1 (gFld C f) fe) := (pe_fld he hb).imp fun σ H Q h => by
  obtain ⟨G, B, env, r, env', ok, ee, k, x⟩ := h.out
  unfold fOp1 at ee
  refine bind1_use (tn' := ta) ok ee (fun C d e1 ea eo a H' s ha => ?_) (by simp) (fun r1 e1 v H1 ea nx ek s l t => ?_)
  · cases eo; exact x _ _ rfl a H' s ha
  · cases e2 : res r1 e1 with
    | none => simp [e2] at ek
    | some dx =>
      simp only [e2] at ek
      cases e3 : gFld C f dx with
      | none => simp [e3] at ek
      | some d =>
        simp only [e3] at ek
        cases ek
        unfold gFld at e3
        split at e3
        · rename_i C' gs
          split at e3
          · rename_i hC
            subst hC
            obtain ⟨p, dx, fs, rfl, hp, ek, r⟩ := (l.res s.ok e2).ins
            obtain ⟨w, hw, rw'⟩ := lookup_rel ek r e3
            exact ⟨p, C', dx, fs, w, rfl, hp, c, n, hw, k w H1 s rw' fun _ _ z => nomatch z⟩
          · cases e3
        · cases e3
/-! ### x.f = e, x a slot of ours -/
def fSetFld (g : Cfg) (j : Nat) (C : Addr) (f : Str) (fe : EF) : SF := fun env => match fe env with
  | some (.exc C d, e) => some (.exc C d, e)
  | some (r, e) => match mv g r e with
    | some (d, e1) => match e1[j]?.join with
      | some (.ins C' gs) => if C' = C ∧ gs.length < 1000 then some (.nx, e1.set j (some (.ins C (putFD f d gs)))) else none
      | _ => none
    | none => none
  | none => none
theorem ds_setFld (j : Nat) {x : Str} (c : Cls X.K C) (n : NoAttr X.K C f) (he : DE X g W ta e fe) (hj : j ∈ g.own := by walk_at "gmem") (hN : X.N[j]? = some x := by rfl) (hv : Vis X.env.scope x := by first | exact Or.inl rfl | exact Or.inr (Or.inl rfl) | exact Or.inr (Or.inr rfl))
    (hd : (x == ("__debug__" : Str)) = false := by decide) (hcd : (x == ("__classdict__" : Str)) = false := by decide) (hs : swapsWith e (some (.Attribute (.Name x pos2) f pos')) pos.line X.env = pure false := by rfl) :
    DS X g W tn (.Assign [.Attribute (.Name x pos2) f pos'] e pos) (fSetFld g j C f fe) := (ps_fld (pv j hN hv hd hcd) he hs).imp fun Dn σ H ⟨G, env, fl, env', ok, ee, q⟩ => by
  unfold fSetFld at ee
  cases e1 : fe env with
  | none => rw [e1] at ee; cases ee
  | some re =>
    obtain ⟨r, env1⟩ := re
    rw [e1] at ee
    refine DEr.intro ok e1 (fun v H1 s l t => ?_) (fun C' d er a H' s ha => ?_)
    · have main : (match mv g r env1 with
        | some (d, e1) => match e1[j]?.join with
          | some (.ins C' gs) => if C' = C ∧ gs.length < 1000 then some (Fl.nx, e1.set j (some (.ins C (putFD f d gs)))) else none
          | _ => none
        | none => none) = some (fl, env') → tVar j σ H1 fun x H2 => ∃ a C dx fs, x = .ref a ∧ H2 a = some (.ins C dx fs) ∧ Cls X.K C ∧ NoAttr X.K C f ∧ fs.length < 1000 ∧ Dn.nx σ (upd H2 a (.ins C dx (putF f v fs))) := fun ee => by
        cases e2 : mv g r env1 with
        | none => simp [e2] at ee
        | some de =>
          obtain ⟨d, env2⟩ := de
          simp only [e2] at ee
          obtain ⟨s2, rd, _⟩ := mv_ok s.ok l e2
          have s12 := s.trans s2
          split at ee
          · rename_i C' gs e3
            split at ee
            · rename_i hc
              obtain ⟨hC, hl⟩ := hc
              subst hC
              cases ee
              obtain ⟨p, hp, ow, _⟩ := s12.ok.own j _ (join_of e3) hj
              refine ⟨_, hp, ?_⟩
              have lp : Live g env2 σ p := ⟨j, _, hj, join_of e3, hp⟩
              obtain ⟨dx, fs, hh, ek, rr⟩ := ow
              have hlen : fs.length = gs.length := by simpa using congrArg List.length ek
              refine ⟨p, C', dx, fs, rfl, hh, c, n, by omega, ?_⟩
              obtain ⟨k1, k2⟩ := putF_rel (f := f) (rd.mono fun a x => ⟨x, trivial⟩) ek rr
              refine q _ _ (s12.ok.put (o' := .ins C' dx (putF f v fs)) (d' := .ins C' (putFD f d gs)) hj (join_of e3) hp hh (.inr (.inr ⟨_, _, _, rfl⟩)) ⟨dx, _, upd_same, k1, k2.fr fun a u h e => ?_⟩).ok
              have ne : a ≠ p := by
                rintro rfl
                rcases h with h | h
                · exact h.1.2 lp
                · rw [hh] at e; cases e; exact h.elim
              exact ⟨u, by rw [upd_ne ne]; exact e, Vary.refl _⟩
            · cases ee
          · cases ee
      cases r with
      | val d => exact main ee
      | slot i => exact main ee
      | exc C d => exact l.elim
    · subst er; cases ee; exact q a σ H' s.ok ha
end
end GR
/-! GS -/
set_option linter.all false
set_option maxRecDepth 100000
/-! Properties, methods, instances made. -/
namespace GR
open PySem L2
variable [TabT]
section
variable {X : Cx} {g : Cfg} {W : WX} {tn ta tb : Bool} {e o : Expr} {es : List Expr} {kws : List Keyword} {fe fa fb : EF} {fs : AF} {pos pos' pos2 apos p : Pos} {f x : Str} {C : Addr} {F : GF} {k : Nat} {fd : FuncData} {ps ks : List Str} {m p0 : Str} {io : List Nat}
def isIns (C : Addr) : Option D → Bool
  | some (.ins C' _) => decide (C' = C)
  | _ => false
/-- e.p, a property -/
def fProp (C : Addr) (tn : Bool) (F : GF) (fe : EF) : EF := fun env => match fe env with
  | some (.exc C d, e) => some (.exc C d, e)
  | some (r, e) => if isIns C (res r e) = true then (match callK tn [] F [r] e with
    | some (.val d, e2) => some (.val d, e2)
    | _ => none) else none
  | none => none
/-- a def at an instance's class -/
structure MethAt (P : Program) (w : World) (K : PySem.W.Frag) (mg : Str → Option Value) (base : Heap) (C : Addr) (m : Str) (ps : List Str) (tn : Bool) (io : List Nat) (F : GF) (k : Nat) : Prop where
  ex : ∃ (f : Addr) (fd : FuncData), Cls K C ∧ Meth K C m f ∧ FnG P w K mg base (L2.CX P w) k f fd ps (spD K tn io F) ∧ Binds K fd ps []
structure PropAt (P : Program) (w : World) (K : PySem.W.Frag) (mg : Str → Option Value) (base : Heap) (C : Addr) (m : Str) (tn : Bool) (F : GF) (k : Nat) : Prop where
  ex : ∃ (f p0 : Addr) (fd : FuncData) (ps : List Str), Cls K C ∧ PropOf K C m p0 f ∧ FnG P w K mg base (L2.CX P w) k f fd ps (spD K tn [] F) ∧ Binds K fd ps []
theorem ins_of {K : PySem.W.Frag} {G : Gnd} {B : Nat → Reg} {σ : St} {H : Hp} {env : Env} {v : V} {r : R1} (ok : EnvOk K g G B σ H env) (l : Late K g G σ H env v r) (h : isIns C (res r env) = true) : ∃ a dx fs, v = .ref a ∧ H a = some (.ins C dx fs) := by
  cases e : res r env with
  | none => rw [e] at h; cases h
  | some d =>
    rw [e] at h
    cases d with
    | ins C' gs =>
      have hc : C' = C := by simpa [isIns] using h
      subst hc
      obtain ⟨p, dx, fs, rfl, hp, _⟩ := (l.res ok e).ins
      exact ⟨p, dx, fs, rfl, hp⟩
    | _ => cases h
theorem de_prop (c : PropAt X.prog X.w X.K X.mg X.base C m tn F k) (hr : RoomG (k + 1) X.A) (hx : Passes (L2.CX X.prog X.w) X.nox (fun _ _ _ => False)) (he : DE X g W ta e fe) (hab : attributeBase e m X.env (eval e X.env) = eval e X.env := by rfl) :
    DE X g W tn (.Attribute e m pos) (fProp C tn F fe) := by
  obtain ⟨f, p0, fd, ps, hC, hp, F', hb⟩ := c.ex
  refine (pe_propG he hC hp F' hr hb hx hab).imp fun σ H Q h => ?_
  obtain ⟨G, B, env, r, env', ok, ee, kk, x⟩ := h.out
  unfold fProp at ee
  cases e1 : fe env with
  | none => rw [e1] at ee; cases ee
  | some re =>
    obtain ⟨r1, env1⟩ := re
    rw [e1] at ee
    refine DEr.intro ok e1 (fun v H1 s l t => ?_) (fun C' d er a H' s ha => ?_)
    · have main : (if isIns C (res r1 env1) = true then (match callK tn [] F [r1] env1 with
        | some (.val d, e2) => some (R1.val d, e2)
        | _ => none) else none) = some (r, env') → ∃ a dx fs, v = .ref a ∧ H1 a = some (.ins C dx fs) ∧ spD X.K tn [] F [.ref a] H1 Q (fun _ _ _ => False) := fun ee => by
        split at ee
        · rename_i hi
          obtain ⟨a, dx, fs, rfl, ha⟩ := ins_of s.ok l hi
          refine ⟨a, dx, fs, rfl, ha, ?_⟩
          split at ee
          · rename_i d e2 e3
            cases ee
            exact call_core (W := fun _ _ _ _ => False) s (.cons l .nil) e3 kk fun C d z => nomatch z
          · cases ee
        · cases ee
      cases r1 with
      | val d => exact main ee
      | slot i => exact main ee
      | exc C d => exact l.elim
    · subst er; cases ee; exact x _ _ rfl a H' s ha
theorem passes_none {X : Cx} : Passes (L2.CX X.prog X.w) X.nox (fun _ _ _ => False) := fun _ _ _ _ _ _ _ ⟨_, _, _, _, _, _, _, _, _, _, _, _, h⟩ => h.elim
theorem DEr.mono {K : PySem.W.Frag} {g : Cfg} {W : WX} {tn : Bool} {f : EF} {σ : St} {H : Hp} {Q Q' : VK} (m : ∀ v H', Q v H' → Q' v H') (h : DEr K g W tn f σ H Q) : DEr K g W tn f σ H Q' := by
  obtain ⟨G, B, env, r, env', ok, ee, k, x⟩ := h.out
  exact DEr.intro ok ee (fun v H' s l t => m v H' (k v H' s l t)) x
/-- o.m(..); the instance's own names do not hide the method -/
def insNo (C : Addr) (m : Str) : Option D → Bool
  | some (.ins C' gs) => decide (C' = C) && (gs.lookup m).isNone
  | _ => false
def fMethD (C : Addr) (m : Str) (tn : Bool) (io : List Nat) (F : GF) (fo : EF) (fs : AF) : EF := fun env => match fo env with
  | some (.exc C d, e) => some (.exc C d, e)
  | some (r, e) => if insNo C m (res r e) = true then (match fs e with
    | some (.exc C d, e2) => some (.exc C d, e2)
    | some (.vals rs, e2) => callK tn io F (r :: rs) e2
    | none => none) else none
  | none => none
theorem lookup_no {m : Str} : ∀ {fs : List (Str × V)} {gs : List (Str × D)}, fs.map Prod.fst = gs.map Prod.fst → gs.lookup m = none → fs.lookup m = none
  | [], _, _, _ => rfl
  | _ :: _, [], h, _ => nomatch h
  | (a, v) :: fs, (b, c) :: gs, h, e => by
    simp only [List.map_cons, List.cons.injEq] at h
    obtain ⟨h1, h2⟩ := h
    subst h1
    cases q : (m == a) with
    | true => simp [List.lookup, q] at e
    | false =>
      simp only [List.lookup, q] at e ⊢
      exact lookup_no h2 e
theorem insNo_of {K : PySem.W.Frag} {G : Gnd} {B : Nat → Reg} {σ : St} {H : Hp} {env : Env} {v : V} {r : R1} (ok : EnvOk K g G B σ H env) (l : Late K g G σ H env v r) (h : insNo C m (res r env) = true) : ∃ a dx fs, v = .ref a ∧ H a = some (.ins C dx fs) ∧ fs.lookup m = none := by
  cases e : res r env with
  | none => rw [e] at h; cases h
  | some d =>
    rw [e] at h
    cases d with
    | ins C' gs =>
      simp only [insNo, Bool.and_eq_true, decide_eq_true_eq, Option.isNone_iff_eq_none] at h
      obtain ⟨hc, hm⟩ := h
      subst hc
      obtain ⟨p, dx, fs, rfl, hp, ek, _⟩ := (l.res ok e).ins
      exact ⟨p, dx, fs, rfl, hp, lookup_no ek hm⟩
    | _ => cases h
theorem meth_part {K : PySem.W.Frag} {σ : St} {H : Hp} {Q : VK} {fo : EF} (h : DEr K g W tn (fMethD C m tn io F fo fs) σ H Q) : DEr K g W ta fo σ H fun x H1 => ∃ a dx gs, x = .ref a ∧ H1 a = some (.ins C dx gs) ∧ gs.lookup m = none ∧ DAr K g W fs σ H1 fun vs H2 => spD K tn io F (x :: vs) H2 Q (WE W σ) := by
  obtain ⟨G, B, env, r, env', ok, ee, kk, x⟩ := h.out
  unfold fMethD at ee
  cases e1 : fo env with
  | none => rw [e1] at ee; cases ee
  | some re =>
    obtain ⟨r1, env1⟩ := re
    rw [e1] at ee
    refine DEr.intro ok e1 (fun v H1 s l t => ?_) (fun C' d er a H' s ha => ?_)
    · have main : (if insNo C m (res r1 env1) = true then (match fs env1 with
        | some (.exc C d, e2) => some (R1.exc C d, e2)
        | some (.vals rs, e2) => callK tn io F (r1 :: rs) e2
        | none => none) else none) = some (r, env') → ∃ a dx gs, v = .ref a ∧ H1 a = some (.ins C dx gs) ∧ gs.lookup m = none ∧ DAr K g W fs σ H1 fun vs H2 => spD K tn io F (v :: vs) H2 Q (WE W σ) := fun ee => by
        split at ee
        · rename_i hi
          obtain ⟨a, dx, gs, rfl, ha, hn⟩ := insNo_of s.ok l hi
          refine ⟨a, dx, gs, rfl, ha, hn, ?_⟩
          cases e2 : fs env1 with
          | none => rw [e2] at ee; cases ee
          | some re2 =>
            obtain ⟨r2, env2⟩ := re2
            rw [e2] at ee
            refine DAr.intro s.ok e2 (fun rs er vs H2 s2 ls => ?_) (fun C' d er a H' s2 ha => ?_)
            · subst er
              exact call_core (s.trans s2) (.cons (l.stp s2) ls) ee kk x
            · subst er; cases ee; exact x _ _ rfl a H' (s.trans s2) ha
        · cases ee
      cases r1 with
      | val d => exact main ee
      | slot i => exact main ee
      | exc C d => exact l.elim
    · subst er; cases ee; exact x _ _ rfl a H' s ha
theorem de_meth {pl : Sem Bool} (c : MethAt X.prog X.w X.K X.mg X.base C m ps tn io F k) (hr : RoomG k X.A) (tk : Takes X W) (ho : DE X g W ta o fe) (ha : DA X g W (e :: es) fs)
    (hst : starEach (e :: es) X.env = (false, eval e X.env) :: starEach es X.env := by rfl) (hpl : (backTo pos (starEach es X.env)).any (·.1) = false := by rfl)
    (ht : eval (.Call (.Attribute o m apos) (e :: es) [] pos) X.env = (do let ov ← eval o X.env; standAt apos.atName; let (f, first) ← holding [ov] (getMethod ov m pl); callWith pos f first (backTo pos (starEach (e :: es) X.env)) (backToKw pos (keywordEach [] X.env))) := by rfl) :
    DE X g W tn (.Call (.Attribute o m apos) (e :: es) [] pos) (fMethD C m tn io F fe fs) := by
  obtain ⟨f, fd, hC, hm, F', hb⟩ := c.ex
  exact (pe_methG ho hC hm F' hr hb (fun σ => passAt tk σ) ha hst hpl ht).imp fun σ H Q h => meth_part h
theorem de_methN {pl : Sem Bool} (c : MethAt X.prog X.w X.K X.mg X.base C m ps tn io F k) (hr : RoomG k X.A) (tk : Takes X W) (ho : DE X g W ta o fe)
    (ht : eval (.Call (.Attribute o m apos) [] [] pos) X.env = (do let ov ← eval o X.env; standAt apos.atName; let (f, first) ← holding [ov] (getMethod ov m pl); callWith pos f first (backTo pos (starEach [] X.env)) (backToKw pos (keywordEach [] X.env))) := by rfl) :
    DE X g W tn (.Call (.Attribute o m apos) [] [] pos) (fMethD C m tn io F fe fANil) := by
  obtain ⟨f, fd, hC, hm, F', hb⟩ := c.ex
  refine (pe_methG0 ho hC hm F' hr hb (fun σ => passAt tk σ) ht).imp fun σ H Q h => DEr.mono (fun v H1 => ?_) (meth_part h)
  rintro ⟨a, dx, gs, e1, e2, e3, q⟩
  refine ⟨a, dx, gs, e1, e2, e3, ?_⟩
  obtain ⟨G, B, env, r, env', ok, ee, kk, _⟩ := q.out
  cases ee
  exact kk [] rfl [] H1 (Stp.refl ok) .nil
end
/-! ### instances made -/
/-- C(..): the arguments are lent; what the instance keeps of them does not change, or nothing is lent -/
def makeK (C : Addr) (F : GF) (rs : List R1) (e : Env) : Option (R1 × Env) := match ress rs e with
  | some ds => match F (.ins C [] :: ds) with
    | some (.val .non, [.ins C' gs]) => if (decide (C' = C) && ((noLent [] 0 rs || D.imms (gs.map Prod.snd)) && decide (slotsOf rs).Nodup)) = true then some (.val (.ins C gs), e) else none
    | some (.exc C2 d, [_]) => if ((noLent [] 0 rs || d.imm) && decide (slotsOf rs).Nodup) = true then some (.exc C2 d, e) else none
    | _ => none
  | none => none
def fMake (C : Addr) (F : GF) (fa : AF) : EF := fun env => match fa env with
  | some (.exc C d, e) => some (.exc C d, e)
  | some (.vals rs, e) => makeK C F rs e
  | none => none
section
variable {K : PySem.W.Frag} {g : Cfg} {G : Gnd} {B B' : Nat → Reg} {H H' H1 H2 : Hp} {σ : St} {env env' env1 env2 e : Env} {p : Addr} {d : D} {v : V} {vs : List V} {ds os : List D} {rs : List R1} {r : R1} {R R' L : Reg} {W : WX} {C : Addr} {F : GF} {Q : VK}
theorem make_core {G : Gnd} {B : Nat → Reg} {env env1 env' : Env} {H1 : Hp} {vs : List V} {rs : List R1} {r0 : R1} (s : Stp K g G B σ H env H1 env1) (ls : Paired (Late K g G σ H1 env1) vs rs) (e : makeK C F rs env1 = some (r0, env'))
    (kv : ∀ v H', Stp K g G B σ H env H' env' → Late K g G σ H' env' v r0 → (∀ d, r0 = .val d → NewV H H' v) → Q v H')
    (kx : ∀ C d, r0 = .exc C d → ∀ a H', Stp K g G B σ H env H' env' → ExcAt K H' (Zr G g env' σ) a d → W (.ref C) (some a) σ H') : rMakeS C (spD K false [0] F) (WE W σ) (fun x => x :: vs) H1 Q := by
  intro x dx hx hdx hne
  unfold makeK at e
  cases e2 : ress rs env1 with
  | none => simp [e2] at e
  | some ds =>
    simp only [e2] at e
    have same : ∀ a o, H1 a = some o → upd (upd H1 dx (.own x)) x (.ins C dx []) a = some o := fun a o h => by
      have n1 : a ≠ x := by rintro rfl; rw [hx] at h; cases h
      have n2 : a ≠ dx := by rintro rfl; rw [hdx] at h; cases h
      rw [upd_ne n1, upd_ne n2]; exact h
    have none1 : ∀ a, upd (upd H1 dx (.own x)) x (.ins C dx []) a = none → H1 a = none := fun a h => by
      cases q : H1 a with
      | none => rfl
      | some o => rw [same a o q] at h; cases h
    have args : (slotsOf rs).Nodup → ArgsOk K [0] (fun a => lentR G g env1 σ [] rs a ∧ H1 a ≠ none) (upd (upd H1 dx (.own x)) x (.ins C dx [])) (.ref x :: vs) (.ins C [] :: ds) := fun nd => by
      have AO := call_args s.ok ls e2 (io := []) (by simp [argsFit, nd])
      exact {
        tab := AO.tab.ext same
        len := by simp [AO.len]
        val := fun i d hd hi => by
          cases i with
          | zero => simp at hi
          | succ j =>
            obtain ⟨v, hv, r⟩ := AO.val j d hd (by simp)
            exact ⟨v, hv, r.alloc.fr (Fr.of_same same)⟩
        own := fun i d hd hi => by
          obtain rfl : i = 0 := by simpa using hi
          cases hd
          exact ⟨x, rfl, ⟨dx, [], upd_same, rfl, .nil⟩, fun z => z.2 hx⟩
        apart := fun i j p hi hj _ _ => by
          obtain rfl : i = 0 := by simpa using hi
          obtain rfl : j = 0 := by simpa using hj
          rfl
        ioin := fun i hi => by
          obtain rfl : i = 0 := by simpa using hi
          simp }
    have stp : ∀ {H' : Hp} {os : List D}, Post K [0] (fun a => lentR G g env1 σ [] rs a ∧ H1 a ≠ none) (upd (upd H1 dx (.own x)) x (.ins C dx [])) (.ref x :: vs) H' os → Stp K g G B σ H env H' env1 := fun {H' os} p => s.growU (fun a o h => p.base a o (fun i hi q => by
        obtain rfl : i = 0 := by simpa using hi
        cases q
        rw [hx] at h; cases h) (same a o h)) p.tab
    have reg : noLent [] 0 rs = true → ∀ a, (((lentR G g env1 σ [] rs a ∧ H1 a ≠ none) ∨ upd (upd H1 dx (.own x)) x (.ins C dx []) a = none) ∧ ∀ j ∈ [0], (V.ref x :: vs)[j]? ≠ some (.ref a)) → Zr G g env1 σ a := fun nl a h => by
      rcases h.1 with ⟨z | ⟨k, j, dj, h1, h2, _⟩, _⟩ | z
      · exact z
      · exact absurd (noLent_io nl h1) (by simp)
      · exact s.ok.fresh (none1 a z)
    split at e
    · rename_i C' gs e3
      split at e
      · rename_i hc
        simp only [Bool.and_eq_true, Bool.or_eq_true, decide_eq_true_eq] at hc
        obtain ⟨hC, hc, nd⟩ := hc
        subst hC
        cases e
        refine ⟨_, _, _, _, args nd, e3, ?_⟩
        intro v H' p rv _
        cases rv
        refine ⟨rfl, ?_⟩
        obtain ⟨q, d, hq, hd, ow⟩ := p.own 0 0 rfl
        cases hq
        cases hd
        refine kv _ H' (stp p) ?_ fun _ _ q hq => ?_
        · show Rep K H' (Zr G g env1 σ) (.ref x) (.ins C' gs)
          rcases hc with nl | im
          · exact ow.rep (s.ok.fresh hx) fun a h => ⟨reg nl a h, by rintro rfl; exact h.2 0 (by simp) rfl⟩
          · exact (OwnAt.immR (R' := fun _ => False) (by exact im) ow).rep (s.ok.fresh hx) fun a h => h.elim
        · cases hq
          refine ⟨s.dom x hx, fun o u z => ?_⟩
          exact ow.notFrz o u z
      · cases e
    · rename_i C2 d o1 e3
      split at e
      · rename_i hc
        simp only [Bool.and_eq_true, Bool.or_eq_true, decide_eq_true_eq] at hc
        obtain ⟨hc, nd⟩ := hc
        cases e
        refine ⟨_, _, _, _, args nd, e3, ?_⟩
        intro a H' p ⟨w, hw, rw'⟩
        refine kx C2 d rfl a H' (stp p) ⟨w, hw, ?_⟩
        rcases hc with nl | im
        · exact rw'.mono (reg nl)
        · exact rw'.immR im
      · cases e
    · cases e
theorem make_rd {fa : AF} (h : DEr K g W true (fMake C F fa) σ H Q) : DAr K g W fa σ H (fun xs H1 => rMakeS C (spD K false [0] F) (WE W σ) (fun x => x :: xs) H1 Q) := by
  obtain ⟨G, B, env, r0, env', ok, e, kv, kx⟩ := h.out
  unfold fMake at e
  cases e1 : fa env with
  | none => rw [e1] at e; cases e
  | some re =>
    obtain ⟨r1, e1'⟩ := re
    rw [e1] at e
    refine DAr.intro ok e1 (fun rs er vs H1 s ls => ?_) (fun C d er a H1 s ha => ?_)
    · subst er
      exact make_core s ls e (fun v H' s l t => kv v H' s l fun d hd _ => t d hd) kx
    · subst er; cases e
      exact kx C d rfl a H1 s ha
end
/-- a class of the module that is made by its own __init__ -/
structure MakeAt (P : Program) (w : World) (K : PySem.W.Frag) (mg : Str → Option Value) (base : Heap) (x : Str) (C : Addr) (ps : List Str) (F : GF) (k : Nat) : Prop where
  ex : ∃ (f : Addr) (fd : FuncData), Mk K C f ∧ FnG P w K mg base (L2.CX P w) k f fd ps (spD K false [0] F) ∧ mg x = some (.ref C) ∧ Binds K fd ps []
section
variable {X : Cx} {g : Cfg} {W : WX} {tn : Bool} {e : Expr} {es : List Expr} {fa : AF} {pos p : Pos} {F : GF} {k : Nat} {x : Str} {ps : List Str} {C : Addr}
theorem de_make (c : MakeAt X.prog X.w X.K X.mg X.base x C ps F k) (hr : RoomG (k + 1) X.A) (tk : Takes X W) (hg : Gl X x) (ha : DA X g W (e :: es) fa)
    (hd : (x == ("__debug__" : Str)) = false := by decide) (he : starEach (e :: es) X.env = (false, eval e X.env) :: starEach es X.env := by rfl) (hpl : (backTo pos (starEach es X.env)).any (·.1) = false := by rfl) :
    DE X g W true (.Call (.Name x p) (e :: es) [] pos) (fMake C F fa) := by
  obtain ⟨f, fd, M, F', hm, hb⟩ := c.ex
  exact (pe_makeG M F' hr hg hm hb (fun σ => passAt tk σ) ha hd he hpl).imp fun _ _ _ => make_rd
end
end GR
/-! GT -/
set_option linter.all false
set_option maxRecDepth 100000
/-! Calls by keywords. -/
namespace GR
open PySem L2
variable [TabT]
theorem _root_.L2.PK.imp {X : Cx} {kws : List Keyword} {t t' : TA} (h : PK X kws t) (m : ∀ σ H Q, t' σ H Q → t σ H Q) : PK X kws t' := ⟨fun pos pins s σ H Q I q => h.run pos pins s σ H Q I (m σ H Q q)⟩
def DK (X : Cx) (g : Cfg) (W : WX) (kws : List Keyword) (f : AF) : Prop := PK X kws (DAr X.K g W f)
/-- the same places in another sequence -/
structure Perm where
  per : {α : Type} → List α → List α
  pr : ∀ {α β : Type} {F : α → β → Prop} {l1 : List α} {l2 : List β}, Paired F l1 l2 → Paired F (per l1) (per l2)
def perId : Perm := ⟨fun l => l, fun h => h⟩
def per10 : Perm := ⟨fun {α} l => match l with
  | [a, b] => [b, a]
  | l => l, fun h => by
    cases h with
    | nil => exact .nil
    | cons h1 h2 =>
      cases h2 with
      | nil => exact .cons h1 .nil
      | cons h3 h4 =>
        cases h4 with
        | nil => exact .cons h3 (.cons h1 .nil)
        | cons h5 h6 => exact .cons h1 (.cons h3 (.cons h5 h6))⟩
def fMakeK (C : Addr) (F : GF) (n : Nat) (per : Perm) (fa : AF) : EF := fun env => match fa env with
  | some (.exc C d, e) => some (.exc C d, e)
  | some (.vals rs, e) => if rs.length = n then makeK C F (per.per rs) e else none
  | none => none
def fCallKw (tn : Bool) (io : List Nat) (F : GF) (n : Nat) (per : Perm) (fa : AF) : EF := fun env => match fa env with
  | some (.exc C d, e) => some (.exc C d, e)
  | some (.vals rs, e) => if rs.length = n then callK tn io F (per.per rs) e else none
  | none => none
section
variable {K : PySem.W.Frag} {g : Cfg} {W : WX} {tn : Bool} {σ : St} {H : Hp} {Q : VK} {io : List Nat} {F : GF} {C : Addr} {n : Nat} {per : Perm}
theorem makeK_rd {fa : AF} (h : DEr K g W true (fMakeK C F n per fa) σ H Q) : DAr K g W fa σ H (fun xs H1 => xs.length = n ∧ rMakeS C (spD K false [0] F) (WE W σ) (fun x => x :: per.per xs) H1 Q) := by
  obtain ⟨G, B, env, r0, env', ok, e, kv, kx⟩ := h.out
  unfold fMakeK at e
  cases e1 : fa env with
  | none => rw [e1] at e; cases e
  | some re =>
    obtain ⟨r1, e1'⟩ := re
    rw [e1] at e
    refine DAr.intro ok e1 (fun rs er vs H1 s ls => ?_) (fun C d er a H1 s ha => ?_)
    · subst er
      simp only at e
      split at e
      · rename_i hl
        exact ⟨(paired_len ls).trans hl, make_core s (per.pr ls) e (fun v H' s l t => kv v H' s l fun d hd _ => t d hd) kx⟩
      · cases e
    · subst er; cases e
      exact kx C d rfl a H1 s ha
theorem callKw_rd {fa : AF} (h : DEr K g W tn (fCallKw tn io F n per fa) σ H Q) : DAr K g W fa σ H (fun xs H1 => xs.length = n ∧ spD K tn io F (per.per xs) H1 Q (WE W σ)) := by
  obtain ⟨G, B, env, r0, env', ok, e, kv, kx⟩ := h.out
  unfold fCallKw at e
  cases e1 : fa env with
  | none => rw [e1] at e; cases e
  | some re =>
    obtain ⟨r1, e1'⟩ := re
    rw [e1] at e
    refine DAr.intro ok e1 (fun rs er vs H1 s ls => ?_) (fun C d er a H1 s ha => ?_)
    · subst er
      simp only at e
      split at e
      · rename_i hl
        exact ⟨(paired_len ls).trans hl, call_core s (per.pr ls) e kv kx⟩
      · cases e
    · subst er; cases e
      exact kx C d rfl a H1 s ha
end
/-- the keywords ks, in the sequence of the text, name all parameters -/
def KwFit (K : PySem.W.Frag) (fd : FuncData) (ps ks : List Str) (per : Perm) : Prop := ∀ (s : Shared) (ws : List Value), K.In s.heap → ws.length = ks.length → BindsTo s fd ⟨[], ks.zip ws⟩ (ps.zip (per.per ws))
def KwFitM (K : PySem.W.Frag) (fd : FuncData) (ps ks : List Str) (per : Perm) : Prop := ∀ (s : Shared) (v : Value) (ws : List Value), K.In s.heap → ws.length = ks.length → BindsTo s fd ⟨[v], ks.zip ws⟩ (ps.zip (v :: per.per ws))
structure MakeKwAt (P : Program) (w : World) (K : PySem.W.Frag) (mg : Str → Option Value) (base : Heap) (x : Str) (C : Addr) (ps ks : List Str) (per : Perm) (F : GF) (k : Nat) : Prop where
  ex : ∃ (f : Addr) (fd : FuncData), Mk K C f ∧ FnG P w K mg base (L2.CX P w) k f fd ps (spD K false [0] F) ∧ mg x = some (.ref C) ∧ KwFitM K fd ps ks per
structure CalleeKw (P : Program) (w : World) (K : PySem.W.Frag) (mg : Str → Option Value) (base : Heap) (x : Str) (ps ks : List Str) (per : Perm) (tn : Bool) (io : List Nat) (F : GF) (k : Nat) : Prop where
  ex : ∃ (f : Addr) (fd : FuncData), FnG P w K mg base (L2.CX P w) k f fd ps (spD K tn io F) ∧ mg x = some (.ref f) ∧ PySem.W.keepIn K (.ref f) = true ∧ KwFit K fd ps ks per
section
variable {X : Cx} {g : Cfg} {W : WX} {tn ta : Bool} {e : Expr} {fe : EF} {kws : List Keyword} {fa fr : AF} {pos p kpos : Pos} {F : GF} {k : Nat} {x : Str} {nm : Option Str} {ps ks : List Str} {C : Addr} {io : List Nat} {per : Perm}
theorem dk_nil : DK X g W [] fANil := pk_nil.imp fun σ H Q ⟨G, B, env, ok, q⟩ => q [] H (Stp.refl ok) .nil
theorem dk_cons (he : DE X g W tn e fe) (hr : DK X g W kws fr) : DK X g W (⟨nm, e, kpos⟩ :: kws) (fACons fe fr) := (pk_cons he hr).imp fun σ H Q h => by
  obtain ⟨G, B, env, r0, env', ok, eo, kv, kx⟩ := h.out
  unfold fACons at eo
  cases e1 : fe env with
  | none => rw [e1] at eo; cases eo
  | some re =>
    obtain ⟨r, e1'⟩ := re
    rw [e1] at eo
    have tl : (∀ C d, r ≠ .exc C d) → (match fr e1' with
        | some (.vals rs, e2) => some (RA.vals (r :: rs), e2)
        | some (.exc C d, e2) => some (.exc C d, e2)
        | none => none) = some (r0, env') → ∀ v H1, Stp X.K g G B σ H env H1 e1' → Late X.K g G σ H1 e1' v r → DAr X.K g W fr σ H1 (fun xs H2 => Q (v :: xs) H2) := fun _ eo v H1 s l => by
      cases e2 : fr e1' with
      | none => rw [e2] at eo; cases eo
      | some re2 =>
        obtain ⟨r2, e2'⟩ := re2
        rw [e2] at eo
        refine DAr.intro s.ok e2 (fun rs er vs H2 s2 ls => ?_) (fun C d er a H2 s2 ha => ?_)
        · subst er; cases eo
          exact kv _ rfl (v :: vs) H2 (s.trans s2) (.cons (l.stp s2) ls)
        · subst er; cases eo
          exact kx C d rfl a H2 (s.trans s2) ha
    refine DEr.intro ok e1 (fun v H1 s l _ => ?_) (fun C d er a H1 s ha => ?_)
    · cases r with
      | val d => exact tl (fun _ _ z => nomatch z) eo v H1 s l
      | slot i => exact tl (fun _ _ z => nomatch z) eo v H1 s l
      | exc C d => exact l.elim
    · subst er; cases eo
      exact kx C d rfl a H1 s ha
theorem de_makeKw (c : MakeKwAt X.prog X.w X.K X.mg X.base x C ps ks per F k) (hr : RoomG (k + 1) X.A) (tk : Takes X W) (hg : Gl X x) (ha : DK X g W kws fa)
    (hall : (backToKw pos (keywordEach kws X.env)).all (·.1.isSome) = true := by rfl) (hks : (backToKw pos (keywordEach kws X.env)).filterMap (·.1) = ks := by rfl) (hdb : (x == ("__debug__" : Str)) = false := by decide)
    (hpl : ((backTo pos (starEach [] X.env)).any (·.1) || (backToKw pos (keywordEach kws X.env)).any (·.1.isNone)) = false := by rfl) :
    DE X g W true (.Call (.Name x p) [] kws pos) (fMakeK C F ks.length per fa) := by
  obtain ⟨f, fd, M, F', hm, hb⟩ := c.ex
  exact (pe_makeGK (per := fun l => per.per l) M F' hr hg hm (fun h => per.pr h) hb (fun σ => passAt tk σ) ha hall hks hdb hpl).imp fun _ _ _ => makeK_rd
theorem de_callKw (c : CalleeKw X.prog X.w X.K X.mg X.base x ps ks per tn io F k) (hr : RoomG k X.A) (tk : Takes X W) (hg : Gl X x) (ha : DK X g W kws fa)
    (hall : (backToKw pos (keywordEach kws X.env)).all (·.1.isSome) = true := by rfl) (hks : (backToKw pos (keywordEach kws X.env)).filterMap (·.1) = ks := by rfl) (hdb : (x == ("__debug__" : Str)) = false := by decide)
    (hpl : ((backTo pos (starEach [] X.env)).any (·.1) || (backToKw pos (keywordEach kws X.env)).any (·.1.isNone)) = false := by rfl) :
    DE X g W tn (.Call (.Name x p) [] kws pos) (fCallKw tn io F ks.length per fa) := by
  obtain ⟨f, fd, F', hm, hk, hb⟩ := c.ex
  exact (pe_callGK (per := fun l => per.per l) F' hr hg hm hk (fun h => per.pr h) hb (fun σ => passAt tk σ) ha hall hks hdb hpl).imp fun _ _ _ => callKw_rd
end
end GR
/-! GU -/
set_option linter.all false
set_option maxRecDepth 100000
set_option maxHeartbeats 2000000
/-! Errors of own classes with one field. -/
namespace PySem
namespace GrErr
open PySem.W PySem.Calls PyProof.Rows PySem.HandSPX
/-! ### the text of __init__ -/
def iA (p1 p2 : Pos) : Arguments := { posonlyargs := [], args := [{ arg := "self", annotation := none, pos := p1 }, { arg := "value", annotation := none, pos := p2 }], vararg := none, kwonlyargs := [], kw_defaults := [], kwarg := none, defaults := [] }
def iB (q1 q2 q3 q4 : Pos) : List Stmt := [.Assign [.Attribute (.Name "self" q1) "value" q2] (.Name "value" q3) q4]
def iS : Scope := { kind := .function, names := [(PySem.Str.ofString "self", .local), (PySem.Str.ofString "value", .local)], isGenerator := false, isCoroutine := false, more := [] }
/-- what the written part says of an error's class, at C, and of its __init__, at fI -/
structure ErrTxt (K : Frag) (mg : Str → Option Value) (x : Str) (C fI : Addr) : Prop where
  gC : mg x = some (.ref C)
  cls : ∃ nm q N bs bm sn sub ab col dd k0 k1 k2 k3 k5, K.lookup C = some (excClassObj nm q C N bs bm true sn sub ab col dd k0 k1 k2 k3 k5 "ValueError.__new__") ∧ refsVE bm = true
  sa : findIn K (.ref C) "__setattr__" = some (some (.builtin "object.__setattr__"))
  ga : findIn K (.ref C) "__getattribute__" = some (some (.builtin "BaseException.__getattribute__"))
  gg : findIn K (.ref C) "__getattr__" = some none
  noN : findIn K (.ref C) "value" = some none
  iC : findIn K (.ref C) "__init__" = some (some (.ref fI))
  tC : typeIn K (.ref fI) = some (.type "function")
  kC : keepIn K (.ref C) = true
  exC : subIn K (.ref C) (.type "BaseException") = some true
  tyC : typeIn K (.ref C) = some (.type "type")
  hdC : hasDictIn K C = true
  fn : ∃ (oc : Value) (od : Option Addr) (kV doc pm : Value) (an : Option Addr) (cdv ct : Value) (osl : Array (Option Value)) (p1 p2 q1 q2 q3 q4 : Pos),
    K.lookup fI = some ⟨oc, od, .func (fnOf "__init__" "GrowthError.__init__" (iA p1 p2) (iB q1 q2 q3 q4) iS .none kV doc pm an cdv ct), osl⟩ ∧ codeIn K cdv "GrowthError.__init__" = true
theorem one_size (v : Value) : [v].length ≤ sizeLine := by
  rw [sizeLine_eq]
  exact (by decide : 1 ≤ 16777216)
theorem kept_but {K : Frag} {h h' : Heap} {x : Addr} (X : K.In h) (hx : K.lookup x = none) (k : ∀ b o, b ≠ x → h.get? b = some o → h'.get? b = some o) : K.In h' := fun a o e =>
  k a o (fun z => by rw [z, hx] at e; cases e) (X a o e)
theorem ldC {M : Model} {s : Shared} {name : Str} {scope : Scope} {L a : Addr} {cd : Value} {m : Str → Option Value} {x : Str} {pos : Pos} {v : Value} {Q : Value → Shared → Prop} {A : Around} {E : Value → Shared → Prop} (hn : s.heap.Ns L m) (hv : m x = some v) (h : Q v s)
    (hk : scope.kind = .function := by rfl) (hl : (envOfC name scope L a cd).kindOf x = some .local := by rfl) (hd : (x == ("__debug__" : Str)) = false := by decide) :
    wpAny M A (eval (.Name x pos) (envOfC name scope L a cd)) Q E s := wpAny_Name (wpAny_loadName_local hk hl hn hv h) hd
/-- what __init__ leaves of a fresh exception at x -/
structure InitEnd (h h' : Heap) (x C dx t1 : Addr) (v : Value) : Prop where
  keep : ∀ b o, b ≠ x → h.get? b = some o → h'.get? b = some o
  obj : h'.get? x = some { cls := .ref C, dict := some dx, data := .fields #[.ref t1, .none, .none, .none, .bool false, .none] }
  dbig : h.objs.size ≤ dx
  dne : dx ≠ x
  ns : h'.Ns1 dx (fun y => if y = "value" then some v else none)
/-- an error made -/
structure OwnMade (h h' : Heap) (e C d : Addr) (v : Value) : Prop where
  keep : ∀ b o, h.get? b = some o → h'.get? b = some o
  new : h.objs.size ≤ e
  obj : ∃ oe vs, h'.get? e = some oe ∧ oe.cls = .ref C ∧ oe.dict = some d ∧ oe.data = .fields vs ∧ vs[1]? = some .none
  dbig : h.objs.size ≤ d
  dne : d ≠ e
  ns : h'.Ns1 d (fun y => if y = "value" then some v else none)
section
variable {prog : Program} {w : World} {A : Around} {E : Value → Shared → Prop} {R : Result → Shared → Prop} {s : Shared} {K : Frag} {mg : Str → Option Value} {C fI : Addr} {nx : Str}
theorem err_init (T : ErrTxt K mg nx C fI) {x t0 : Addr} {v : Value} (X : K.In s.heap) (hlim : s.heap.NoLimit) (hx : s.heap.get? x = some (excO C t0)) (hnx : K.lookup x = none) (hroom : A.depth < recursionLimit)
    (hq : ∀ h' tk dx, InitEnd s.heap h' x C dx t0 v → R (.ok (.ret .none)) { s with heap := h', toks := tk }) :
    codeAny (model prog w) A (.call (.ref fI) ⟨[.ref x, v], []⟩) R s := by
  obtain ⟨oc, od, kV, doc, pm, an, cdv, ct, osl, p1, p2, q1, q2, q3, q4, ho, hcd⟩ := T.fn
  obtain ⟨nm, q, N, bs, bm, sn, sub, ab, col, dd, k0, k1, k2, k3, k5, hC, hbm⟩ := T.cls
  have hcl : clsIn K C = some { name := nm, bases := bs, mro := .ref C :: bm, ns := N, qualname := q, hasDict := true, slotNames := sn, subclasses := sub, abstract := ab, collection := col, hasDel := false } := by unfold clsIn; rw [hC] <;> rfl
  refine Att.call_fn (binds := [("self", .ref x), ("value", v)]) X hlim ho hcd hroom (BindsTo.of_eq (by first | rfl | with_unfolding_all rfl)) (by first | rfl | decide | with_unfolding_all rfl) (fun s₁ IC => ?_) rfl rfl rfl
  obtain ⟨h₁, tk₁, rfl⟩ := IC.toInCall.same
  have k : ∀ b o, s.heap.get? b = some o → h₁.get? b = some o := IC.toInCall.keep
  have hn := IC.toInCall.ns
  have hxL : s.heap.objs.size ≠ x := Nat.ne_of_gt (Heap.lt_size hx)
  have X₁ : K.In h₁ := X.keeps k
  have hx₁ := k _ _ hx
  -- the field
  show wpAny _ _ (execs _ _) _ _ _
  refine wpAny_execs_cons (plainObj_wpAny_Assign_Attribute ?_)
  refine ldC (v := v) hn (by first | rfl | with_unfolding_all rfl | kernel_rfl) (ldC (v := .ref x) hn (by first | rfl | with_unfolding_all rfl | kernel_rfl) ?_)
  refine set_plain X₁ (ox := excO C t0) (od := none) ⟨hx₁, rfl, rfl, trivial⟩ T.sa ?_
  refine exc_osa X₁ hx₁ hcl (show refsVE (.ref C :: bm) = true from hbm) rfl T.noN (fun h₃ tk₃ dx k₃ dn dne hx₃ hn₃ => ?_)
  show wpAny _ _ (execs _ _) _ _ _
  have z : s.heap.objs.size < h₁.objs.size := hn.lt
  exact wpAny_execs_nil (hq h₃ tk₃ dx ⟨fun b o hb e => k₃ b o hb (k b o e), hx₃, Nat.le_of_lt (Nat.lt_of_lt_of_le z dn), dne, hn₃⟩)
theorem err_made (T : ErrTxt K mg nx C fI) {v : Value} (X : K.In s.heap) (hlim : s.heap.NoLimit) (hroom : A.depth + 1 < recursionLimit)
    (hq : ∀ h' tk e d, OwnMade s.heap h' e C d v → R (.ok (.ret (.ref e))) { s with heap := h', toks := tk }) :
    codeAny (model prog w) A (.call (.ref C) ⟨[v], []⟩) R s := by
  obtain ⟨nm, q, N, bs, bm, sn, sub, ab, col, dd, k0, k1, k2, k3, k5, hC, hbm⟩ := T.cls
  obtain ⟨hp, g, dr, tk, os⟩ := s
  have k : ∀ b o, hp.get? b = some o → ((hp.push (kdv_tup [v])).push (excO C hp.objs.size)).get? b = some o := fun b o e => Heap.get?_push_of_some _ (Heap.get?_push_of_some _ e)
  have hget : ((hp.push (kdv_tup [v])).push (excO C hp.objs.size)).get? (hp.objs.size + 1) = some (excO C hp.objs.size) := by heap_get
  have hnx : K.lookup (hp.objs.size + 1) = none := by
    cases e : K.lookup (hp.objs.size + 1) with
    | none => rfl
    | some o =>
      have z : hp.get? (hp.objs.size + 1) = some o := X _ _ e
      exact absurd (Nat.lt_of_succ_lt (Heap.lt_size z)) (Nat.lt_irrefl _)
  refine call_own F.excBase_ValueError (fun X => refsVE_contains X bm hbm) (X _ _ hC) (looks_findIn X T.iC) (fun self => bind_fn X self T.tC) (one_size v) ?_
  refine err_init (s := ⟨(hp.push (kdv_tup [v])).push (excO C hp.objs.size), g, dr, tk, os⟩) T (X.keeps k) (hlim.keeps k) hget hnx ?_ fun h' tk' dx ⟨k', hx, dn, dne, hns⟩ => ?_
  · show A.depth + 1 < recursionLimit
    exact hroom
  · have old : ∀ b o, hp.get? b = some o → h'.get? b = some o := fun b o e => k' b o (Nat.ne_of_lt (Nat.lt_succ_of_lt (Heap.lt_size e))) (k b o e)
    have z : hp.objs.size + 1 + 1 ≤ dx := by
      first
        | (simpa only [Heap.size_push] using dn)
        | exact dn
        | (have q := dn; rw [Heap.size_push, Heap.size_push] at q; exact q)
    exact ⟨rfl, hq h' tk' (hp.objs.size + 1) dx ⟨old, Nat.le_succ _, ⟨_, _, hx, rfl, rfl, rfl, rfl⟩, Nat.le_trans (Nat.le_trans (Nat.le_succ _) (Nat.le_succ _)) z, dne, hns⟩⟩
end
end GrErr
end PySem
namespace L2
open PySem PySem.Spec PyProof.Rows
theorem relO_err {v : V} {v' : Value} (r : RelV v v') (f : Str) : RelO (List.lookup f [(("value" : Str), v)]) (if f = "value" then some v' else none) := by
  by_cases hw : f = "value"
  · subst hw
    rw [if_pos rfl]
    have q : List.lookup ("value" : Str) [(("value" : Str), v)] = some v := by simp [List.lookup]
    rw [q]
    exact r
  · rw [if_neg hw]
    have qw : (f == ("value" : Str)) = false := by simpa using hw
    have q2 : List.lookup f [(("value" : Str), v)] = none := by simp [List.lookup, qw]
    rw [q2]
    trivial
section
variable {X : Cx} {C fI : Addr} {x : Str}
/-- X(e) -/
def tMkErr (C : Addr) (ta : TA) : St → Hp → XK → Prop := fun σ H Q => ta σ H fun vs H1 => ∃ v, vs = [v] ∧ ∀ d, H1 d = none → Q (.ref C) (some d) (upd H1 d (.xd [(("value" : Str), v)]))
theorem pmk_err {a : Expr} {ta : TA} {p pos : Pos} {k : Nat} (T : PySem.GrErr.ErrTxt X.K X.mg x C fI) (hr : Room k X.A) (ha : PA X [a] ta) (hg : Gl X x) (hdb : (x == ("__debug__" : Str)) = false)
    (he : starEach (a :: []) X.env = (false, eval a X.env) :: starEach [] X.env := by rfl) (hpl : (backTo pos (starEach [] X.env)).any (·.1) = false := by rfl) :
    PMk X (.Call (.Name x p) [a] [] pos) (tMkErr C ta) := by
  intro pins s σ H Q I h
  refine wpAny_Call_Name_kw (ld_glob I hg T.gC ?_ hdb)
  refine PySem.W.callWith_K (h₀ := X.base) I.ok.mod.kin T.kC (thn (ha.run pos pins s σ H _ I h) fun us s1 hh => ?_) he hpl
  obtain ⟨vs, H1, I1, r1, v, ev, q1⟩ := hh
  subst ev
  refine ⟨I1.kIn, ?_⟩
  cases r1 with
  | cons rv rn =>
    rename_i v' us'
    cases rn
    show wpAny _ _ (call (.ref C) [v']) _ _ _
    have hlim := I1.nolimit
    obtain ⟨hp, g, dr, tk, os⟩ := s1
    refine wpAny_call (PySem.GrErr.err_made T I1.kIn hlim (by have := hr.dp; omega) fun h' tk' e d M => ?_)
    show MkP X pins σ Q (.ref e) ⟨h', g, dr, tk', os⟩
    obtain ⟨oe, fv, hoe, hc, hd, hdat, h1⟩ := M.obj
    have hns := M.ns
    obtain ⟨G', g1, g2⟩ := restrict h' fun b => decide (b ≠ e)
    have gk : ∀ b, b ≠ e → G'.get? b = h'.get? b := fun b hb => g1 b (decide_eq_true hb)
    have ge : G'.get? e = none := g2 e (by simp)
    have old : ∀ b o, hp.get? b = some o → G'.get? b = some o := fun b o q => (gk b (Nat.ne_of_lt (Nat.lt_of_lt_of_le (Heap.lt_size q) M.new))).trans (M.keep b o q)
    have ob : ObjOk X.prog X.w (upd H1 d (.xd [(("value" : Str), v)])) G' d (.xd [(("value" : Str), v)]) :=
      ⟨_, hns.at (fun o q => (gk d M.dne).trans q), fun f => relO_err rv f⟩
    have J : Inv X pins σ (upd H1 d (.xd [(("value" : Str), v)])) ⟨G', g, dr, tk', os⟩ := I1.laid (t' := tk') old M.dbig ob
    refine ⟨e, oe, fv, ⟨G', g, dr, tk', os⟩, _, .ref C, some d, rfl, J, fun b o q => ?_, ge, hoe, ⟨hc, hd⟩, hdat, h1, ?_, rfl, I1.bare, raises_own T.exC T.tyC, q1 d (I1.hok.fresh M.dbig)⟩
    · by_cases hb : b = e
      · have q' : G'.get? b = some o := q
        rw [hb, ge] at q'; cases q'
      · exact (gk b hb).symm.trans q
    · rw [upd_ne (Ne.symm M.dne)]
      exact I1.hok.fresh M.new
/-- raise X(e) -/
def tRaiseErr (C : Addr) (W : WX) (ta : TA) : TS := fun _ σ H => tMkErr C ta σ H fun cls d H' => W cls d σ H'
theorem ps_raiseErr {a : Expr} {ta : TA} {W : WX} {p pos pos2 : Pos} {k : Nat} (hc : X.calm = true) (T : PySem.GrErr.ErrTxt X.K X.mg x C fI) (hr : Room k X.A) (tk : Takes X W) (ha : PA X [a] ta) (hg : Gl X x) (hdb : (x == ("__debug__" : Str)) = false)
    (he : starEach (a :: []) X.env = (false, eval a X.env) :: starEach [] X.env := by rfl) (hpl : (backTo pos (starEach [] X.env)).any (·.1) = false := by rfl) :
    PS X (.Raise (some (.Call (.Name x p) [a] [] pos)) none pos2) (tRaiseErr C W ta) := ps_raise hc tk (pmk_err T hr ha hg hdb he hpl)
end
end L2
/-! GV -/
set_option linter.all false
set_option maxRecDepth 100000
/-! raise, try, what an except suite asks of its exception. -/
namespace GR
open PySem L2
variable [TabT]
/-- the error classes: the i-th stands at ca i; all are made by the __init__ at fI; 0 is the base of all -/
structure Errs (K : PySem.W.Frag) (mg : Str → Option Value) (ca : Nat → Addr) (fI : Addr) (nm : List Str) : Prop where
  txt : ∀ i x, nm[i]? = some x → PySem.GrErr.ErrTxt K mg x (ca i) fI
  inj : ∀ i j, i < nm.length → j < nm.length → ca i = ca j → i = j
  cls : ∀ i, i < nm.length → (PySem.W.clsIn K (ca i)).isSome = true
  ex : ∀ i, i < nm.length → ExcC K (ca i)
  isO : ∀ i j, i < nm.length → j < nm.length → PySem.W.kitOne K (.ref (ca i)) (.ref (ca j)) = some (i == j || j == 0)
  isV : ∀ i, i < nm.length → PySem.W.kitOne K (.ref (ca i)) (.type "ValueError") = some true
  exm : ∀ i j, i < nm.length → j < nm.length → PySem.W.exmOne K (.ref (ca i)) (.ref (ca j)) = some (i == j || j == 0)
def labOf (ca : Nat → Addr) (n : Nat) (c : Addr) : Option Nat := (List.range n).find? fun i => decide (ca i = c)
theorem labOf_some {ca : Nat → Addr} {n i : Nat} {c : Addr} (h : labOf ca n c = some i) : i < n ∧ ca i = c := by
  unfold labOf at h
  have h1 := List.find?_some h
  have h2 := List.mem_of_find?_eq_some h
  exact ⟨List.mem_range.mp h2, of_decide_eq_true h1⟩
theorem Errs.lab {K : PySem.W.Frag} {mg : Str → Option Value} {ca : Nat → Addr} {fI : Addr} {nm : List Str} (T : Errs K mg ca fI nm) {i : Nat} (h : i < nm.length) : labOf ca nm.length (ca i) = some i := by
  cases e : labOf ca nm.length (ca i) with
  | none =>
    unfold labOf at e
    have := List.find?_eq_none.mp e i (List.mem_range.mpr h)
    simp at this
  | some j =>
    obtain ⟨h1, h2⟩ := labOf_some e
    rw [T.inj j i h1 h h2]
/-! ### raise -/
def fRaise (g : Cfg) (C : Addr) (fe : EF) : SF := fun env => match fe env with
  | some (.exc C d, e) => some (.exc C d, e)
  | some (r, e) => match mv g r e with
    | some (d, e2) => some (.exc C d, e2)
    | none => none
  | none => none
section
variable {X : Cx} {g : Cfg} {W : WX} {tn ta : Bool} {a : Expr} {fe : EF} {p pos pos2 : Pos} {x : Str} {C fI : Addr} {k : Nat}
theorem ds_raise (hc : X.calm = true) (T : PySem.GrErr.ErrTxt X.K X.mg x C fI) (hr : RoomG k X.A) (tk : Takes X W) (he : DE X g W ta a fe) (hg : Gl X x) (hdb : (x == ("__debug__" : Str)) = false := by decide)
    (hst : starEach (a :: []) X.env = (false, eval a X.env) :: starEach [] X.env := by rfl) (hpl : (backTo pos (starEach [] X.env)).any (·.1) = false := by rfl) :
    DS X g W tn (.Raise (some (.Call (.Name x p) [a] [] pos)) none pos2) (fRaise g C fe) := (ps_raiseErr hc T hr.room tk (pa_cons he pa_nil hst) hg hdb hst hpl).imp fun Dn σ H ⟨G, env, fl, env', ok, ee, q⟩ => by
  unfold fRaise at ee
  cases e1 : fe env with
  | none => rw [e1] at ee; cases ee
  | some re =>
    obtain ⟨r, env1⟩ := re
    rw [e1] at ee
    refine DEr.intro ok e1 (fun v H1 s l t => ?_) (fun C' d er a H' s ha => ?_)
    · have main : (match mv g r env1 with
        | some (d, e2) => some (Fl.exc C d, e2)
        | none => none) = some (fl, env') → ∃ w, [v] = [w] ∧ ∀ d, H1 d = none → W (.ref C) (some d) σ (upd H1 d (.xd [("value", w)])) := fun ee => by
        cases e2 : mv g r env1 with
        | none => simp [e2] at ee
        | some de =>
          obtain ⟨d, env2⟩ := de
          simp only [e2] at ee
          cases ee
          obtain ⟨s2, rd, _⟩ := mv_ok s.ok l e2
          have s12 := s.trans s2
          refine ⟨v, rfl, fun dd hd => ?_⟩
          exact q dd σ _ (s12.ok.step (upd_same_of hd)).top ⟨v, upd_same, rd.up hd⟩
      cases r with
      | val d => exact main ee
      | slot i => exact main ee
      | exc C d => exact l.elim
    · subst er; cases ee; exact q a σ H' s.ok.top ha
end
/-! ### try .. except X as n -/
def holdX (K : PySem.W.Frag) (a : Addr) (d : D) : Hold where
  P H R := ExcAt K H R a d
  fr _ _ _ h f := by
    obtain ⟨v, h1, h2⟩ := h
    have st : Stay (.xd [("value", v)]) := trivial
    exact ⟨v, f.at (.inr st) h1 st.not, h2.fr f⟩
  mono _ _ _ h m := by
    obtain ⟨v, h1, h2⟩ := h
    exact ⟨v, h1, h2.mono m⟩
  alloc _ _ h := by
    obtain ⟨v, h1, h2⟩ := h
    exact ⟨v, h1, h2.alloc⟩
/-- in a suite: the exception at a, its dict at dd, its thing d, at the slot j -/
def Cfg.at (g : Cfg) (K : PySem.W.Frag) (j : Nat) (a dd : Addr) (d : D) : Cfg := ⟨g.own, g.io, (j, a) :: g.ex, holdX K dd d :: g.xh⟩
/-- j: the name's slot; cj: the class that is caught -/
def fTry (ca : Nat → Addr) (n j cj : Nat) (fb : SF) (fs : Nat → D → SF) : SF := fun env => match fb env with
  | some (.exc C d, e) => match labOf ca n C with
    | some i => if (i == cj || cj == 0) = true then (if j < e.length then (match fs i d (e.set j none) with
        | some (.exc _ _, _) => none
        | some (fl, e2) => some (fl, e2.set j none)
        | none => none) else none) else some (.exc C d, e)
    | none => none
  | some (fl, e) => some (fl, e)
  | none => none
section
variable {K : PySem.W.Frag} {g : Cfg} {G : Gnd} {B : Nat → Reg} {H : Hp} {σ : St} {env : Env} {j : Nat} {a dd : Addr} {d : D}
theorem live_at (b : Addr) : Live (g.at K j a dd d) env σ b ↔ Live g env σ b := Iff.rfl
theorem EnvOk.inAt (ok : EnvOk K g G Top σ H env) (hj : j < σ.length) (hio : j ∉ g.io) (hxf : exFree g j = true) (hx : ExcAt K H (Zr G g env σ) dd d) : EnvOk K (g.at K j a dd d) G Top (σ.set j (some (.ref a))) H (env.set j none) := by
  have o1 : EnvOk K g G Top (σ.set j (some (.ref a))) H (env.set j none) := (ok.drop j hio).sig (List.length_set ..) (fun i d h => by
    obtain ⟨_, ne⟩ := set_none_get h
    rw [set_get_ne ne]) fun x m => by rw [ex_set ok.ex hxf x m, ok.ex x m]
  have zr : ∀ b, Zr G g env σ b → Zr G g (env.set j none) (σ.set j (some (.ref a))) b := fun b ⟨z, n⟩ => ⟨z, fun ⟨i, d, h1, h2, h3⟩ => n (by
    obtain ⟨h2', ne⟩ := set_none_get h2
    rw [set_get_ne ne] at h3
    exact ⟨i, d, h1, h2', h3⟩)⟩
  exact {
    len := o1.len, val := o1.val, own := o1.own, io := o1.io, ioall := o1.ioall, apart := o1.apart, base := o1.base, tab := o1.tab, dom := o1.dom, ap := o1.ap
    hold := fun h q => by
      rcases q with q | q
      · exact o1.hold h (.inl q)
      · rcases List.mem_cons.mp q with rfl | q
        · obtain ⟨v, h1, h2⟩ := hx
          exact ⟨v, h1, h2.mono fun b z => ⟨zr b z, trivial⟩⟩
        · exact o1.hold h (.inr q)
    ex := fun x m => by
      rcases List.mem_cons.mp m with rfl | m
      · exact List.getElem?_set_self hj
      · exact o1.ex x m }
theorem EnvOk.outAt (ok : EnvOk K (g.at K j a dd d) G Top σ H env) (hio : j ∉ g.io) : EnvOk K g G Top σ H (env.set j none) := by
  have o1 := ok.drop j hio
  exact { len := o1.len, val := o1.val, own := o1.own, io := o1.io, ioall := o1.ioall, apart := o1.apart, base := o1.base, tab := o1.tab, dom := o1.dom, ap := o1.ap
          hold := fun h q => o1.hold h (q.imp id (List.mem_cons_of_mem _)), ex := fun x m => o1.ex x (List.mem_cons_of_mem _ m) }
theorem EnvOk.gone (ok : EnvOk K g G Top σ H (env.set j none)) (hxf : exFree g j = true) : EnvOk K g G Top (σ.set j none) H (env.set j none) := ok.sig (List.length_set ..) (fun i d h => by
    obtain ⟨_, ne⟩ := set_none_get h
    rw [set_get_ne ne]) fun x m => by rw [ex_set ok.ex hxf x m, ok.ex x m]
end
section
variable {X : Cx} {g : Cfg} {W : WX} {tn : Bool} {x n : Str} {j cj : Nat} {body suite : List Stmt} {b₀ : Stmt} {np pos pos' : Pos} {fb : SF} {fs : Nat → D → SF} {ca : Nat → Addr} {fI : Addr} {nm : List Str}
theorem ds_try (T : Errs X.K X.mg ca fI nm) (hs : X.stack = X.env :: X.outer) (hf : X.env.frame = some X.env.locals) (hN : X.N.Nodup) (j : Nat) (cj : Nat) (hi : X.N[j]? = some n) (hln : X.env.kindOf n = some .local) (hcj : nm[cj]? = some x) (hg : Gl X x) (hd : (x == ("__debug__" : Str)) = false) (tk : Takes X W)
    (hio : j ∉ g.io) (hxf : exFree g j = true)
    (hb : ∀ (W : WX) (pn : List (Addr × Obj)) (xe : Value → Shared → Prop), Takes (X.tr pn xe) W → PassesOwn (model X.prog X.w) X.A X.env xe → DSs (X.tr pn xe) g W tn body fb)
    (hsu : ∀ (i : Nat) (a : Addr) (oe : Obj) (dd : Addr) (d : D) (pn : List (Addr × Obj)), i < nm.length → Zc (.ref (ca i)) (some dd) oe → (∃ vs, oe.data = .fields vs) → DSs (X.suite a ((a, oe) :: pn)) (g.at X.K j a dd d) W0 tn (b₀ :: suite) (fs i d)) :
    DS X g W tn (.Try body [.ExceptHandler (some (.Name x np)) (some n) (b₀ :: suite) pos'] [] [] pos) (fTry ca nm.length j cj fb fs) := by
  have hcl : cj < nm.length := (List.getElem?_eq_some_iff.mp hcj).1
  refine (ps_try_as (c := .ref (ca cj)) (tb := fun W => DSr X.K g W tn fb) (ts := fun a cls d Dn σ H => ∃ i dd e, i < nm.length ∧ cls = .ref (ca i) ∧ d = some dd ∧ DSr X.K (g.at X.K j a dd e) W0 tn (fs i e) Dn σ H) hs hf hN hi hln ⟨hg, hd, .inl (T.txt cj x hcj).gC⟩ tk hb
    (fun a oe cls d pn hz hfl => ⟨fun pins s σ H Dn I ⟨i, dd, e, hi, e1, e2, q⟩ => by
      subst e1; subst e2
      exact (hsu i a oe dd e pn hi hz hfl).run pins s σ H Dn I q⟩)).imp fun Dn σ H ⟨G, env, fl, env', ok, ee, q⟩ => ?_
  unfold fTry at ee
  cases e1 : fb env with
  | none => rw [e1] at ee; cases ee
  | some re =>
    obtain ⟨f1, env1⟩ := re
    rw [e1] at ee
    refine ⟨G, env, f1, env1, ok, e1, ?_⟩
    cases f1 with
    | nx => cases ee; exact q
    | brk => cases ee; exact q
    | cnt => cases ee; exact q
    | ret d => cases ee; exact q
    | exc C d =>
      simp only at ee
      cases e2 : labOf ca nm.length C with
      | none => rw [e2] at ee; cases ee
      | some i =>
        rw [e2] at ee
        simp only at ee
        obtain ⟨hin, hC⟩ := labOf_some e2
        subst hC
        intro a σ' H' ok1 hx
        refine ⟨i == cj || cj == 0, T.exm i cj hin hcl, fun hb ae hae => ?_, fun hb => ?_⟩
        · rw [if_pos hb] at ee
          split at ee
          case isFalse => cases ee
          rename_i hjl
          rw [ok1.len] at hjl
          refine ⟨i, a, d, hin, rfl, rfl, G, env1.set j none, ?_⟩
          cases e3 : fs i d (env1.set j none) with
          | none => rw [e3] at ee; cases ee
          | some re3 =>
            obtain ⟨f3, env3⟩ := re3
            rw [e3] at ee
            have ok2 := ok1.inAt (a := ae) hjl hio hxf hx
            cases f3 with
            | exc C d => cases ee
            | nx =>
              cases ee
              exact ⟨.nx, env3, ok2, rfl, fun σ2 H2 o2 => q _ _ ((o2.outAt hio).gone hxf)⟩
            | brk =>
              cases ee
              exact ⟨.brk, env3, ok2, rfl, fun σ2 H2 o2 => q _ _ ((o2.outAt hio).gone hxf)⟩
            | cnt =>
              cases ee
              exact ⟨.cnt, env3, ok2, rfl, fun σ2 H2 o2 => q _ _ ((o2.outAt hio).gone hxf)⟩
            | ret dr =>
              cases ee
              refine ⟨.ret dr, env3, ok2, rfl, fun v σ2 H2 o2 r t => q v σ2 H2 (o2.outAt hio) (r.mono fun b z => ⟨z.1, fun ⟨i, d, h1, h2, h3⟩ => z.2 ⟨i, d, h1, (set_none_get h2).1, h3⟩⟩) t⟩
        · rw [if_neg (by rw [hb]; exact Bool.false_ne_true)] at ee
          cases ee
          exact q a σ' H' ok1 hx
end
end GR
/-! GW -/
set_option linter.all false
set_option maxRecDepth 100000
/-! What a suite asks of its exception: its thing, its class. -/
namespace GR
open PySem L2
variable [TabT]
def fXval (d : D) : EF := fun env => some (.val d, env)
/-- isinstance(x, C): both classes by their labels -/
def isTab (ca : Nat → Addr) (n i : Nat) : D → Option Bool
  | .gl c => match labOf ca n c with
    | some j => some (i == j || j == 0)
    | none => none
  | .ty "ValueError" => some true
  | _ => none
def isTabs (ca : Nat → Addr) (n i : Nat) : List D → Option Bool
  | [] => some false
  | d :: ds => match isTab ca n i d with
    | some b => match isTabs ca n i ds with
      | some c => some (b || c)
      | none => none
    | none => none
def isAny (ca : Nat → Addr) (n i : Nat) : D → Option Bool
  | .tup ds => isTabs ca n i ds
  | d => isTab ca n i d
def fIsX (ca : Nat → Addr) (n i : Nat) (fc : EF) : EF := fun env => match fc env with
  | some (.exc C d, e) => some (.exc C d, e)
  | some (.val c, e) => match isAny ca n i c with
    | some b => some (.val (.bl b), e)
    | none => none
  | _ => none
def rIsX (K : PySem.W.Frag) (D a dd : Addr) : List V → Hp → VK → Prop := fun xs H Q => ∃ b, (∃ fs, H dd = some (.xd fs)) ∧ ((∃ c cv, xs = [.ref a, c] ∧ ClsV c cv ∧ PySem.W.kitOne K (.ref D) cv = some b) ∨ ∃ tp cs us, xs = [.ref a, .ref tp] ∧ SqT K H tp cs ∧ Paired ClsV cs us ∧ PySem.W.kitAny K (.ref D) us = some b) ∧ Q (.bl b) H
theorem call_isX {X : Cx} {a D dd : Addr} {oe : Obj} {pn : List (Addr × Obj)} (C : ExcC X.K D) (hcl : (PySem.W.clsIn X.K D).isSome = true) (hz : Zc (.ref D) (some dd) oe) (hf : ∃ vs, oe.data = .fields vs) : CallR (X.suite a ((a, oe) :: pn)) (.builtin "isinstance") (rIsX X.K D a dd) := by
  intro pins s σ H xs us Q I r h
  obtain ⟨b, ⟨fs, hdd⟩, h, q⟩ := h
  obtain ⟨hget, _⟩ := I.pin (a, oe) (List.mem_append.mpr (.inl List.mem_cons_self))
  obtain ⟨vs, hv⟩ := hf
  have hx : ObjOk X.prog X.w H s.heap dd (.xd fs) := I.hok dd _ hdd
  obtain ⟨mA, hns, _⟩ := hx
  obtain ⟨od, ho, _⟩ := lookIn_ns hns
  have J : PySem.W.InstAt s.heap a oe D (some od) := ⟨hget, hz.1, by unfold PySem.W.notCls; rw [hv] <;> rfl, by rw [hz.2]; exact ho⟩
  have Z := PySem.W.kitx_exc (K := X.K) (x := a) (ox := oe) (od := some od) hcl C.hg C.hk C.hs C.ha C.hn C.ht C.hm
  rcases h with ⟨c, cv, rfl, kc, e⟩ | ⟨tp, cs, ws, rfl, sq, kc, e⟩
  · cases r with
    | cons rx rr =>
      cases rr with
      | cons rt rr =>
        cases rr
        cases rx
        have ec := kc.eq rt
        subst ec
        exact PySem.W.kia_one Z I.kIn J e (fun z => nomatch z) fun tk => ⟨.bl b, H, I.tok tk, rfl, q⟩
  · cases r with
    | cons rx rr =>
      cases rr with
      | cons rt rr =>
        cases rr
        cases rx
        cases (show _ = Value.ref tp from rt)
        obtain ⟨its, rv, ⟨o, h1, h2, n, h3⟩, _⟩ := I.tuple sq
        have e3 := ClsV.all kc rv
        subst e3
        obtain ⟨oc, od, dt, sl⟩ := o
        simp only at h2 h3
        subst h2 h3
        exact PySem.W.kia_tup Z I.kIn J h1 e (fun z => nomatch z) fun tk => ⟨.bl b, H, I.tok tk, rfl, q⟩
section
variable {K : PySem.W.Frag} {mg : Str → Option Value} {ca : Nat → Addr} {fI : Addr} {nm : List Str} {H : Hp} {R L : Reg} {i : Nat}
theorem isTab_ok (T : Errs K mg ca fI nm) (hi : i < nm.length) {v : V} {d : D} {b : Bool} (r : RepB K H R L v d) (e : isTab ca nm.length i d = some b) : ∃ cv, ClsV v cv ∧ PySem.W.kitOne K (.ref (ca i)) cv = some b := by
  unfold isTab at e
  split at e
  · rename_i c
    split at e
    · rename_i j hj
      cases e
      obtain ⟨h1, h2⟩ := labOf_some hj
      subst h2
      rw [r.gl]
      exact ⟨_, .own _, T.isO i j hi h1⟩
    · cases e
  · cases e
    rw [r.ty]
    exact ⟨_, .ty _, T.isV i hi⟩
  · cases e
theorem isTabs_ok (T : Errs K mg ca fI nm) (hi : i < nm.length) : ∀ {vs : List V} {ds : List D} {b : Bool}, Reps K H R vs ds → isTabs ca nm.length i ds = some b → ∃ us, Paired ClsV vs us ∧ PySem.W.kitAny K (.ref (ca i)) us = some b
  | _, _, b, .nil, e => by cases e; exact ⟨[], .nil, kitAny_nil⟩
  | _, _, b, .cons (v := v) (d := d) (ds := ds) r rs, e => by
    unfold isTabs at e
    cases hc : isTab ca nm.length i d with
    | none => rw [hc] at e; cases e
    | some c =>
      rw [hc] at e
      simp only at e
      cases h2 : isTabs ca nm.length i ds with
      | none => rw [h2] at e; cases e
      | some b' =>
        rw [h2] at e
        cases e
        obtain ⟨cv, k1, k2⟩ := isTab_ok (L := fun _ => False) T hi (.inl r) hc
        obtain ⟨us, u1, u2⟩ := isTabs_ok T hi rs h2
        refine ⟨cv :: us, .cons k1 u1, kitAny_cons k2 (fun q => ?_) fun q => ?_⟩
        · subst q; exact u2
        · subst q; rfl
end
section
variable {X : Cx} {g : Cfg} {W : WX} {tn tc : Bool} {n : Str} {j i : Nat} {c : Expr} {fc : EF} {p p1 pos : Pos} {ca : Nat → Addr} {fI a dd : Addr} {d : D} {oe : Obj} {pn : List (Addr × Obj)} {nm : List Str}
/-- e.value -/
theorem de_xval (T : Errs X.K X.mg ca fI nm) (hi : i < nm.length) (hz : Zc (.ref (ca i)) (some dd) oe) (hf : ∃ vs, oe.data = .fields vs) (hN : X.N[j]? = some n) (hv : Vis X.env.scope n) (hd : (n == ("__debug__" : Str)) = false) (hcd : (n == ("__classdict__" : Str)) = false)
    (hb : attributeBase (.Name n p) "value" X.env (eval (.Name n p) X.env) = eval (.Name n p) X.env := by rfl) : DE (X.suite a ((a, oe) :: pn)) (g.at X.K j a dd d) W false (.Attribute (.Name n p) "value" pos) (fXval d) := by
  have t := T.txt i _ (List.getElem?_eq_getElem hi)
  refine (pe_xf (X := X) ⟨t.ga, t.gg, t.exC, t.hdC⟩ t.noN hz hf (pv j hN hv hd hcd) hb).imp fun σ H Q h => ?_
  obtain ⟨G, B, env, r, env', ok, ee, k, x⟩ := h.out
  cases ee
  obtain ⟨v, h1, h2⟩ := ok.hold _ (.inr List.mem_cons_self)
  exact ⟨_, ok.ex _ List.mem_cons_self, rfl, rfl, dd, _, v, rfl, h1, by simp [List.lookup], k v H (Stp.refl ok) (h2.mono fun b z => z.1) fun _ _ z => nomatch z⟩
/-- isinstance(e, ..) -/
theorem de_isX (T : Errs X.K X.mg ca fI nm) (hi : i < nm.length) (hz : Zc (.ref (ca i)) (some dd) oe) (hf : ∃ vs, oe.data = .fields vs) (hN : X.N[j]? = some n) (hv : Vis X.env.scope n) (hd : (n == ("__debug__" : Str)) = false) (hcd : (n == ("__classdict__" : Str)) = false)
    (hg : Gl X "isinstance") (hm : X.mg "isinstance" = none) (hc : DE (X.suite a ((a, oe) :: pn)) (g.at X.K j a dd d) W tc c fc)
    (hs1 : starEach [.Name n p1, c] X.env = (false, eval (.Name n p1) X.env) :: starEach [c] X.env := by rfl) (hs2 : starEach [c] X.env = (false, eval c X.env) :: starEach [] X.env := by rfl) (hpl : (backTo pos (starEach [c] X.env)).any (·.1) = false := by rfl) :
    DE (X.suite a ((a, oe) :: pn)) (g.at X.K j a dd d) W true (.Call (.Name "isinstance" p) [.Name n p1, c] [] pos) (fIsX ca nm.length i fc) := by
  refine (pe_callB (X := X.suite a ((a, oe) :: pn)) (call_isX (X := X) (T.ex i hi) (T.cls i hi) hz hf) hg hm rfl (pa_cons (pv j hN hv hd hcd) (pa_cons hc pa_nil hs2) hs1) (by decide) (by decide) hs1 hpl).imp fun σ H Q h => ?_
  obtain ⟨G, B, env, r, env', ok, ee, k, x⟩ := h.out
  refine ⟨_, ok.ex _ List.mem_cons_self, ?_⟩
  unfold fIsX at ee
  cases e1 : fc env with
  | none => rw [e1] at ee; cases ee
  | some re =>
    obtain ⟨r1, env1⟩ := re
    rw [e1] at ee
    refine DEr.intro ok e1 (fun v H1 s l t => ?_) (fun C' d er a H' s ha => ?_)
    · cases r1 with
      | slot i => cases ee
      | exc C d => exact l.elim
      | val cd =>
        simp only at ee
        cases e2 : isAny ca nm.length i cd with
        | none => rw [e2] at ee; cases ee
        | some b =>
          rw [e2] at ee
          cases ee
          obtain ⟨w, h1, _⟩ := s.ok.hold _ (.inr List.mem_cons_self)
          have q : Q (.bl b) H1 := k (.bl b) H1 s .bl fun _ _ _ => NewV.no (by intro p q; cases q)
          refine ⟨b, ⟨_, h1⟩, ?_, q⟩
          have one : ∀ e : isTab ca nm.length i cd = some b, ∃ c cv, [V.ref a, v] = [.ref a, c] ∧ ClsV c cv ∧ PySem.W.kitOne X.K (.ref (ca i)) cv = some b := fun e => by
            obtain ⟨cv, h1, h2⟩ := isTab_ok T hi (.inl l : RepB X.K H1 _ (fun _ => False) v cd) e
            exact ⟨v, cv, rfl, h1, h2⟩
          cases cd with
          | tup ds =>
            obtain ⟨tp, vs, rfl, sq, rs⟩ := (RepB.of l : RepB X.K H1 _ (fun _ => False) v (.tup ds)).tup
            obtain ⟨us, u1, u2⟩ := isTabs_ok T hi rs e2
            exact .inr ⟨tp, vs, us, rfl, sq, u1, u2⟩
          | _ => exact .inl (one e2)
    · subst er; cases ee; exact x _ _ rfl a H' s ha
end
end GR
/-! GX -/
set_option linter.all false
set_option maxRecDepth 100000
/-! Built-ins, in, chains. -/
namespace GR
open PySem L2
variable [TabT]
def intsOf : List D → Option (List Int)
  | [] => some []
  | .int i :: ds => match intsOf ds with
    | some is => some (i :: is)
    | none => none
  | _ => none
section
variable {K : PySem.W.Frag} {H : Hp} {R L : Reg}
theorem ints_reps : ∀ {ds : List D} {is : List Int} {vs : List V}, intsOf ds = some is → Reps K H R vs ds → vs = is.map V.int
  | [], is, _, e, r => by cases e; cases r; rfl
  | d :: ds, is, _, e, .cons r rs => by
    cases d with
    | int i =>
      unfold intsOf at e
      cases q : intsOf ds with
      | none => rw [q] at e; cases e
      | some js =>
        rw [q] at e
        cases e
        cases r
        rw [ints_reps q rs]; rfl
    | _ => cases e
theorem any_int (i : Int) (is : List Int) : (inV (.int i) (is.map V.int)) = is.contains i := by
  unfold inV
  induction is with
  | nil => rfl
  | cons j js ih =>
    rw [List.map_cons, List.any_cons, ih, List.contains_cons]
    show (j == i || _) = _
    rw [Bool.beq_comm]
theorem flat_ints (is : List Int) : (is.map V.int).all flatV = true := by
  induction is with
  | nil => rfl
  | cons j js ih => simp [flatV, ih]
/-! ### in -/
def gIn (neg : Bool) : D → D → Option D
  | .int i, .tup ds => match intsOf ds with
    | some is => some (.bl (neg != is.contains i))
    | none => none
  | .int i, .dK ks => some (.bl (neg != (ks.any fun kv => decide (kv.1 = .inl i))))
  | .str i, .dK ks => some (.bl (neg != (ks.any fun kv => decide (kv.1 = .inr i))))
  | .int i, .frl is => some (.bl (neg != is.contains i))
  | x, .lst ds => match x, intsOf ds with
    | .int i, some is => some (.bl (neg != is.contains i))
    | _, _ => if (x.dat 19 && ds.all (D.dat 19)) = true then some (.bl (neg != (D.pys ds).any fun z => PyData.eqv z x.py)) else none
  | _, _ => none
/-- in a list of data -/
def rInDt (K : PySem.W.Frag) (neg : Bool) : R2 := fun x y H Q => ∃ (R L : Reg) (a : D) (bs : List D), RepB K H R L x a ∧ RepB K H R L y (.lst bs) ∧ a.dat 19 = true ∧ (D.lst bs).dat 20 = true ∧ Q (.bl (neg != (D.pys bs).any fun z => PyData.eqv z a.py)) H
def rInDk (neg : Bool) : R2 := fun x y H Q => ∃ a o, y = .ref a ∧ DGet H a x o ∧ Q (.bl (neg != o.isSome)) H
def rIn4 (K : PySem.W.Frag) (neg : Bool) : R2 := fun x y H Q => rIn K neg x y H Q ∨ rInDk neg x y H Q ∨ rInDt K neg x y H Q
end
theorem op_in4 {X : Cx} (hu : X.A.units + 64 < cLine) : OpR X (compareOp .In) (rIn4 X.K false) := by
  intro pins s σ H x y v u Q I rx ry h
  rcases h with h | ⟨a, o, rfl, hg, q⟩ | ⟨R, L, a, bs, ra, rb, ha, hb, q⟩
  · exact op_in_seq pins s σ H x y v u Q I rx ry h
  · cases (show u = Value.ref a from ry)
    exact d_in (by omega) I hg rx fun s' I' => ⟨.bl o.isSome, H, I', rfl, by simpa using q⟩
  · obtain ⟨as, r1⟩ := reads_of I 19 a ra rx ha
    obtain ⟨bs', r2⟩ := reads_of I 20 (.lst bs) rb ry hb
    obtain ⟨l1, d1⟩ := py_lay 19 a ha
    obtain ⟨l2, d2⟩ := py_lay 20 (.lst bs) hb
    refine SeqAt.in_list_reads (xs := D.pys bs) r2 r1 l2 l1 (by have := Nat.min_le_right (PyData.depthAll (D.pys bs)) a.py.depth; omega) ⟨.bl _, H, I, rfl, by simpa using q⟩
theorem op_ni4 {X : Cx} (hu : X.A.units + 64 < cLine) : OpR X (compareOp .NotIn) (rIn4 X.K true) := by
  intro pins s σ H x y v u Q I rx ry h
  rcases h with h | ⟨a, o, rfl, hg, q⟩ | ⟨R, L, a, bs, ra, rb, ha, hb, q⟩
  · exact op_notIn_seq pins s σ H x y v u Q I rx ry h
  · cases (show u = Value.ref a from ry)
    exact d_notIn (by omega) I hg rx fun s' I' => ⟨.bl (!o.isSome), H, I', rfl, by simpa using q⟩
  · obtain ⟨as, r1⟩ := reads_of I 19 a ra rx ha
    obtain ⟨bs', r2⟩ := reads_of I 20 (.lst bs) rb ry hb
    obtain ⟨l1, d1⟩ := py_lay 19 a ha
    obtain ⟨l2, d2⟩ := py_lay 20 (.lst bs) hb
    refine SeqAt.notIn_list_reads (xs := D.pys bs) r2 r1 l2 l1 (by have := Nat.min_le_right (PyData.depthAll (D.pys bs)) a.py.depth; omega) ⟨.bl _, H, I, rfl, by simpa using q⟩
section
variable {K : PySem.W.Frag} {H : Hp} {R L : Reg}
theorem isSome_any {kvs : List (Key × V)} {ks : List (Key × D)} (e : kvs.map Prod.fst = ks.map Prod.fst) (k : Key) : (valV kvs k).isSome = ks.any fun kv => decide (kv.1 = k) := by
  have h1 : (valV kvs k).isSome = kvs.any fun kv => decide (kv.1 = k) := by
    unfold valV
    rw [Option.isSome_map]
    clear e
    induction kvs with
    | nil => rfl
    | cons a l ih =>
      rw [List.find?_cons, List.any_cons]
      cases q : decide (a.1 = k) with
      | true => simp
      | false => simpa using ih
  have h2 : ∀ {κ α β : Type} [DecidableEq κ] {l : List (κ × α)} {m : List (κ × β)} (k : κ), l.map Prod.fst = m.map Prod.fst → (l.any fun kv => decide (kv.1 = k)) = m.any fun kv => decide (kv.1 = k) := fun {κ α β _} => by
    intro l
    induction l with
    | nil => intro m k h; cases m with
      | nil => rfl
      | cons => cases h
    | cons a l ih => intro m k h; cases m with
      | nil => cases h
      | cons b m =>
        simp only [List.map_cons, List.cons.injEq] at h
        simp only [List.any_cons, ih k h.2, h.1]
  rw [h1, h2 k e]
theorem o2_in {neg : Bool} : Op2 K (rIn4 K neg) true (gIn neg) := fun H R L x y dx dy d Q rx ry hf e k => by
  have bb : ∀ b : Bool, d = .bl b → Q (.bl b) H := fun b h => by subst h; exact k _ H (fun _ _ h => h) .bl (nv)
  have fl : ∀ (p : Addr) (i : Int) (is : List Int), (SqL K H p (is.map V.int) ∨ SqT K H p (is.map V.int)) → x = .int i → y = .ref p → d = .bl (neg != is.contains i) → rIn4 K neg x y H Q := fun p i is hq hx hy hd => by
    refine .inl ⟨p, _, hy, hq, by rw [hx]; rfl, flat_ints is, ?_⟩
    rw [hx, any_int]
    have := bb _ hd
    cases neg <;> simpa using this
  unfold gIn at e
  split at e
  · rename_i i ds
    split at e
    · rename_i is hi
      cases e
      obtain ⟨p, vs, rfl, sq, r⟩ := ry.tup
      rw [ints_reps hi r] at sq
      exact fl p i is (.inr sq) rx.int rfl rfl
    · cases e
  · rename_i i ks
    cases e
    obtain ⟨p, kvs, rfl, hp, ek, r⟩ := ry.dK
    refine .inr (.inl ⟨p, _, rfl, .inl ⟨kvs, .inl i, hp, rx.int, rfl⟩, ?_⟩)
    rw [isSome_any ek]
    exact bb _ rfl
  · rename_i i ks
    cases e
    obtain ⟨p, kvs, rfl, hp, ek, r⟩ := ry.dK
    refine .inr (.inl ⟨p, _, rfl, .inl ⟨kvs, .inr i, hp, rx.str, rfl⟩, ?_⟩)
    rw [isSome_any ek]
    exact bb _ rfl
  · rename_i i is
    cases e
    obtain ⟨p, rfl, hp⟩ := ry.frl
    exact fl p i is (.inl hp) rx.int rfl rfl
  · rename_i ds
    split at e
    · rename_i i is hi
      cases e
      obtain ⟨p, vs, rfl, hp, r⟩ := ry.lst
      rw [ints_reps hi r] at hp
      exact fl p i is (.inl (SqL.of hp)) rx.int rfl rfl
    · split at e
      · rename_i hd
        simp only [Bool.and_eq_true] at hd
        cases e
        refine .inr (.inr ⟨R, L, _, ds, rx, ry, hd.1, hd.2, bb _ rfl⟩)
      · cases e
  · cases e
/-! ### built-ins -/
theorem one_arg {xs : List V} {ds : List D} {a : D} (r : Paired (RepB K H R L) xs ds) (e : ds = [a]) : ∃ x, xs = [x] ∧ RepB K H R L x a := by
  subst e
  cases r with
  | cons h t => cases t; exact ⟨_, rfl, h⟩
theorem two_arg {xs : List V} {ds : List D} {a b : D} (r : Paired (RepB K H R L) xs ds) (e : ds = [a, b]) : ∃ x y, xs = [x, y] ∧ RepB K H R L x a ∧ RepB K H R L y b := by
  subst e
  cases r with
  | cons h t => cases t with
    | cons h2 t2 => cases t2; exact ⟨_, _, rfl, h, h2⟩
def gLen : List D → Option D
  | [.lst ds] => some (.int (ds.length : Nat))
  | [.tup ds] => some (.int (ds.length : Nat))
  | [.frl is] => some (.int (is.length : Nat))
  | [.dK ks] => some (.int (ks.length : Nat))
  | [.str z] => if z.length ≤ 16777216 then some (.int (z.length : Nat)) else none
  | _ => none
def gAbs : List D → Option D
  | [.int i] => some (.int (i.natAbs : Nat))
  | _ => none
def gMax2 : List D → Option D
  | [.int i, .int j] => some (.int (max i j))
  | _ => none
def gMin2 : List D → Option D
  | [.int i, .int j] => some (.int (min i j))
  | _ => none
def gInt : List D → Option D
  | [.int i] => some (.int i)
  | [.bl b] => some (.int (if b then 1 else 0))
  | _ => none
/-- list(x), tuple(x): the items as they are -/
def gList : List D → Option D
  | [.lst ds] => some (.lst ds)
  | [.tup ds] => some (.lst ds)
  | [.frl is] => some (.lst (is.map D.int))
  | [.dK ks] => match ks.mapM (m := Option) (fun kv => match kv.1 with
      | .inl i => some (D.int i)
      | .inr x => some (D.str x)) with
    | some ds => some (.lst ds)
    | none => none
  | _ => none
def gTuple : List D → Option D
  | [.lst ds] => some (.tup ds)
  | [.tup ds] => some (.tup ds)
  | _ => none
theorem n_len : OpN K (fun xs H Q => (∃ x n, xs = [x] ∧ LenV K x H n ∧ Q (.int n) H) ∨ ∃ a kvs, xs = [V.ref a] ∧ Rd H a (.dK kvs) ∧ Q (.int kvs.length) H) true gLen := fun H R L xs ds d Q r hf e k => by
  unfold gLen at e
  split at e
  · obtain ⟨x, rfl, rx⟩ := one_arg r rfl
    cases e
    obtain ⟨p, vs, rfl, hp, rr⟩ := rx.lst
    refine .inl ⟨_, _, rfl, Or.inl ⟨vs, SqL.of hp, rfl⟩, ?_⟩
    rw [rr.len]; exact k _ H (fun _ _ h => h) .int nv
  · obtain ⟨x, rfl, rx⟩ := one_arg r rfl
    cases e
    obtain ⟨p, vs, rfl, hp, rr⟩ := rx.tup
    refine .inl ⟨_, _, rfl, Or.inr ⟨vs, hp, rfl⟩, ?_⟩
    rw [rr.len]; exact k _ H (fun _ _ h => h) .int nv
  · rename_i is
    obtain ⟨x, rfl, rx⟩ := one_arg r rfl
    cases e
    obtain ⟨p, rfl, hp⟩ := rx.frl
    refine .inl ⟨_, _, rfl, Or.inl ⟨_, hp, rfl⟩, ?_⟩
    rw [List.length_map]; exact k _ H (fun _ _ h => h) .int nv
  · rename_i ks
    obtain ⟨x, rfl, rx⟩ := one_arg r rfl
    cases e
    obtain ⟨p, kvs, rfl, hp, ek, rr⟩ := rx.dK
    refine .inr ⟨p, kvs, rfl, hp, ?_⟩
    rw [show kvs.length = ks.length by simpa using congrArg List.length ek]; exact k _ H (fun _ _ h => h) .int nv
  · obtain ⟨x, rfl, rx⟩ := one_arg r rfl
    split at e
    · rename_i z hz
      cases e
      obtain rfl := rx.str
      refine .inl ⟨_, _, rfl, ⟨by rw [sizeLine_eq]; exact hz, rfl⟩, ?_⟩
      exact k _ H (fun _ _ h => h) .int nv
    · cases e
  · cases e
theorem n_abs : OpN K (fun xs H Q => ∃ i, xs = [.int i] ∧ Q (.int (if i < 0 then -i else i)) H) true gAbs := fun H R L xs ds d Q r hf e k => by
  unfold gAbs at e
  split at e
  · rename_i i
    obtain ⟨x, rfl, rx⟩ := one_arg r rfl
    cases e
    obtain rfl := rx.int
    refine ⟨i, rfl, ?_⟩
    rw [show (if i < 0 then -i else i) = ((i.natAbs : Nat) : Int) by split <;> omega]
    exact k _ H (fun _ _ h => h) .int nv
  · cases e
theorem n_max2 : OpN K (fun xs H Q => ∃ i j, xs = [.int i, .int j] ∧ Q (.int (if j > i then j else i)) H) true gMax2 := fun H R L xs ds d Q r hf e k => by
  unfold gMax2 at e
  split at e
  · rename_i i j
    obtain ⟨x, y, rfl, rx, ry⟩ := two_arg r rfl
    cases e
    obtain rfl := rx.int
    obtain rfl := ry.int
    refine ⟨i, j, rfl, ?_⟩
    rw [show (if j > i then j else i) = max i j by split <;> omega]
    exact k _ H (fun _ _ h => h) .int nv
  · cases e
theorem n_min2 : OpN K (fun xs H Q => ∃ i j, xs = [.int i, .int j] ∧ Q (.int (if j < i then j else i)) H) true gMin2 := fun H R L xs ds d Q r hf e k => by
  unfold gMin2 at e
  split at e
  · rename_i i j
    obtain ⟨x, y, rfl, rx, ry⟩ := two_arg r rfl
    cases e
    obtain rfl := rx.int
    obtain rfl := ry.int
    refine ⟨i, j, rfl, ?_⟩
    rw [show (if j < i then j else i) = min i j by split <;> omega]
    exact k _ H (fun _ _ h => h) .int nv
  · cases e
theorem n_int : OpN K (fun xs H Q => (∃ i, xs = [.int i] ∧ Q (.int i) H) ∨ ∃ k, xs = [.bl k] ∧ Q (.int (if k then 1 else 0)) H) true gInt := fun H R L xs ds d Q r hf e k => by
  unfold gInt at e
  split at e
  · obtain ⟨x, rfl, rx⟩ := one_arg r rfl
    cases e
    obtain rfl := rx.int
    exact .inl ⟨_, rfl, k _ H (fun _ _ h => h) .int nv⟩
  · obtain ⟨x, rfl, rx⟩ := one_arg r rfl
    cases e
    obtain rfl := rx.bl
    exact .inr ⟨_, rfl, k _ H (fun _ _ h => h) .int nv⟩
  · cases e
end
end GR
/-! GY -/
set_option linter.all false
set_option maxRecDepth 100000
/-! More built-ins; chains; slices. -/
namespace GR
open PySem L2
variable [TabT]
theorem call_lenR {X : Cx} : CallR X (.builtin "len") (fun xs H Q => ∃ a kvs, xs = [V.ref a] ∧ Rd H a (.dK kvs) ∧ Q (.int kvs.length) H) := by
  intro pins s σ H xs us Q I r h
  obtain ⟨a, kvs, rfl, ha, q⟩ := h
  obtain ⟨u, rfl, ru⟩ := vals1 r
  cases ru
  exact d_len I ha fun t s' I' => ⟨.int kvs.length, H, I', ⟨t, rfl⟩, q⟩
theorem c_len {X : Cx} : CallR X (.builtin "len") (fun xs H Q => (∃ x n, xs = [x] ∧ LenV X.K x H n ∧ Q (.int n) H) ∨ ∃ a kvs, xs = [V.ref a] ∧ Rd H a (.dK kvs) ∧ Q (.int kvs.length) H) := call_len.or call_lenR
section
variable {K : PySem.W.Frag} {H : Hp} {R L : Reg}
def keyD : Key → D
  | .inl i => .int i
  | .inr x => .str x
def gListOf : List D → Option D
  | [.lst ds] => some (.lst ds)
  | [.tup ds] => some (.lst ds)
  | [.frl is] => some (.lst (is.map D.int))
  | [.dK ks] => some (.lst (ks.map fun kv => keyD kv.1))
  | _ => none
def rListA (K : PySem.W.Frag) : List V → Hp → VK → Prop := fun xs H Q => (∃ p ys, xs = [.ref p] ∧ (SqL K H p ys ∨ SqT K H p ys) ∧ ∀ l, H l = none → Q (.ref l) (upd H l (.lst ys))) ∨ ∃ (a : Addr) (kvs : List (Key × V)), xs = [.ref a] ∧ Rd H a (.dK kvs) ∧ ∀ p, H p = none → Q (.ref p) (upd H p (.lst (kvs.map fun kv => kV kv.1)))
theorem c_list {X : Cx} (hc : X.calm = true) : CallR X (.type "list") (rListA X.K) := call_list_of.or (call_listD hc)
theorem reps_ints : ∀ is : List Int, Reps K H R (is.map V.int) (is.map D.int)
  | [] => .nil
  | _ :: is => .cons .int (reps_ints is)
theorem key_rep (k : Key) : Rep K H R (kV k) (keyD k) := by
  cases k with
  | inl i => exact .int
  | inr x => exact .str
theorem reps_keys : ∀ {kvs : List (Key × V)} {ks : List (Key × D)}, kvs.map Prod.fst = ks.map Prod.fst → Reps K H R (kvs.map fun kv => kV kv.1) (ks.map fun kv => keyD kv.1)
  | [], [], _ => .nil
  | [], _ :: _, h => nomatch h
  | _ :: _, [], h => nomatch h
  | a :: kvs, b :: ks, h => by
    simp only [List.map_cons, List.cons.injEq] at h
    exact .cons (by show Rep K H R (kV a.1) (keyD b.1); rw [h.1]; exact key_rep _) (reps_keys h.2)
theorem n_list : OpN K (rListA K) true gListOf := fun H R L xs ds d Q r hf e k => by
  have new : ∀ {l : Addr} {vs : List V} {es : List D}, H l = none → Reps K H R vs es → d = .lst es → Q (.ref l) (upd H l (.lst vs)) := fun {l vs es} hl rr hd => by
    subst hd
    exact k _ _ (upd_same_of hl) (Rep.newLst hl (hf l hl) rr) fun _ => NewV.upd hl fun q u z => nomatch z
  unfold gListOf at e
  split at e
  · obtain ⟨x, rfl, rx⟩ := one_arg r rfl
    cases e
    obtain ⟨p, vs, rfl, hp, rr⟩ := rx.lst
    exact .inl ⟨p, vs, rfl, .inl (SqL.of hp), fun l hl => new hl rr rfl⟩
  · obtain ⟨x, rfl, rx⟩ := one_arg r rfl
    cases e
    obtain ⟨p, vs, rfl, hp, rr⟩ := rx.tup
    exact .inl ⟨p, vs, rfl, .inr hp, fun l hl => new hl rr rfl⟩
  · obtain ⟨x, rfl, rx⟩ := one_arg r rfl
    cases e
    obtain ⟨p, rfl, hp⟩ := rx.frl
    exact .inl ⟨p, _, rfl, .inl hp, fun l hl => new hl (reps_ints _) rfl⟩
  · obtain ⟨x, rfl, rx⟩ := one_arg r rfl
    cases e
    obtain ⟨p, kvs, rfl, hp, ek, rr⟩ := rx.dK
    exact .inr ⟨p, kvs, rfl, hp, fun l hl => new hl (reps_keys ek) rfl⟩
  · cases e
def gTupOf : List D → Option D
  | [.lst ds] => some (.tup ds)
  | [.frl is] => some (.tup (is.map D.int))
  | _ => none
theorem n_tuple : OpN K (fun xs H Q => ∃ p ys, xs = [.ref p] ∧ ((SqL K H p ys ∧ ∀ l, H l = none → Q (.ref l) (upd H l (.tup ys))) ∨ (SqT K H p ys ∧ Q (.ref p) H))) true gTupOf := fun H R L xs ds d Q r hf e k => by
  have new : ∀ {l : Addr} {vs : List V} {es : List D}, H l = none → Reps K H R vs es → d = .tup es → Q (.ref l) (upd H l (.tup vs)) := fun {l vs es} hl rr hd => by
    subst hd
    exact k _ _ (upd_same_of hl) (Rep.newTup hl rr) fun _ => NewV.upd hl fun q u z => nomatch z
  unfold gTupOf at e
  split at e
  · obtain ⟨x, rfl, rx⟩ := one_arg r rfl
    cases e
    obtain ⟨p, vs, rfl, hp, rr⟩ := rx.lst
    exact ⟨p, vs, rfl, .inl ⟨SqL.of hp, fun l hl => new hl rr rfl⟩⟩
  · obtain ⟨x, rfl, rx⟩ := one_arg r rfl
    cases e
    obtain ⟨p, rfl, hp⟩ := rx.frl
    exact ⟨p, _, rfl, .inl ⟨hp, fun l hl => new hl (reps_ints _) rfl⟩⟩
  · cases e
/-- dict(d) -/
def gDictOf : List D → Option D
  | [.dK ks] => some (.dK ks)
  | _ => none
theorem n_dict : OpN K (fun xs H Q => ∃ (a : Addr) (kvs : List (Key × V)), xs = [.ref a] ∧ Rd H a (.dK kvs) ∧ ∀ p, H p = none → Q (.ref p) (upd H p (.dK kvs))) true gDictOf := fun H R L xs ds d Q r hf e k => by
  unfold gDictOf at e
  split at e
  · obtain ⟨x, rfl, rx⟩ := one_arg r rfl
    cases e
    obtain ⟨p, kvs, rfl, hp, ek, rr⟩ := rx.dK
    exact ⟨p, kvs, rfl, hp, fun l hl => k _ _ (upd_same_of hl) (Rep.newDK hl (hf l hl) ek rr) fun _ => NewV.upd hl fun q u z => nomatch z⟩
  · cases e
/-! ### of a list of ints -/
def gSum : List D → Option D
  | [.lst ds] => (intsOf ds).map fun is => .int is.sum
  | [.frl is] => some (.int is.sum)
  | _ => none
def maxL : List Int → Option Int
  | [] => none
  | i :: is => some (is.foldl max i)
def minL : List Int → Option Int
  | [] => none
  | i :: is => some (is.foldl min i)
def gMax : List D → Option D
  | [.lst ds] => (intsOf ds).bind fun is => (maxL is).map D.int
  | [.frl is] => (maxL is).map D.int
  | _ => none
def gMin : List D → Option D
  | [.lst ds] => (intsOf ds).bind fun is => (minL is).map D.int
  | [.frl is] => (minL is).map D.int
  | _ => none
theorem n_sum : OpN K (rSum K) true gSum := fun H R L xs ds d Q r hf e k => by
  unfold gSum at e
  split at e
  · obtain ⟨x, rfl, rx⟩ := one_arg r rfl
    obtain ⟨is, hi, hd⟩ := Option.map_eq_some_iff.mp e
    subst hd
    obtain ⟨p, vs, rfl, hp, rr⟩ := rx.lst
    rw [ints_reps hi rr] at hp
    exact ⟨p, is, rfl, SqL.of hp, k _ H (fun _ _ h => h) .int nv⟩
  · obtain ⟨x, rfl, rx⟩ := one_arg r rfl
    cases e
    obtain ⟨p, rfl, hp⟩ := rx.frl
    exact ⟨p, _, rfl, hp, k _ H (fun _ _ h => h) .int nv⟩
  · cases e
theorem foldl_max : ∀ (is : List Int) (i : Int), (is.foldl max i ∈ i :: is) ∧ ∀ y ∈ i :: is, y ≤ is.foldl max i
  | [], i => ⟨List.mem_cons_self, fun y h => by simp at h; subst h; exact Int.le_refl _⟩
  | j :: is, i => by
    obtain ⟨h1, h2⟩ := foldl_max is (max i j)
    refine ⟨?_, fun y h => ?_⟩
    · rcases List.mem_cons.mp h1 with h | h
      · show is.foldl max (max i j) ∈ _
        rw [h]
        rcases Int.le_total i j with q | q
        · rw [Int.max_eq_right q]; simp
        · rw [Int.max_eq_left q]; simp
      · exact List.mem_cons_of_mem _ (List.mem_cons_of_mem _ h)
    · have hm := h2 (max i j) List.mem_cons_self
      show y ≤ is.foldl max (max i j)
      rcases List.mem_cons.mp h with rfl | h
      · exact Int.le_trans (Int.le_max_left ..) hm
      · rcases List.mem_cons.mp h with rfl | h
        · exact Int.le_trans (Int.le_max_right ..) hm
        · exact h2 y (List.mem_cons_of_mem _ h)
theorem foldl_min : ∀ (is : List Int) (i : Int), (is.foldl min i ∈ i :: is) ∧ ∀ y ∈ i :: is, is.foldl min i ≤ y
  | [], i => ⟨List.mem_cons_self, fun y h => by simp at h; subst h; exact Int.le_refl _⟩
  | j :: is, i => by
    obtain ⟨h1, h2⟩ := foldl_min is (min i j)
    refine ⟨?_, fun y h => ?_⟩
    · rcases List.mem_cons.mp h1 with h | h
      · show is.foldl min (min i j) ∈ _
        rw [h]
        rcases Int.le_total i j with q | q
        · rw [Int.min_eq_left q]; simp
        · rw [Int.min_eq_right q]; simp
      · exact List.mem_cons_of_mem _ (List.mem_cons_of_mem _ h)
    · have hm := h2 (min i j) List.mem_cons_self
      show is.foldl min (min i j) ≤ y
      rcases List.mem_cons.mp h with rfl | h
      · exact Int.le_trans hm (Int.min_le_left ..)
      · rcases List.mem_cons.mp h with rfl | h
        · exact Int.le_trans hm (Int.min_le_right ..)
        · exact h2 y (List.mem_cons_of_mem _ h)
theorem max_eq {is : List Int} {m n : Int} (h : maxL is = some n) (h1 : m ∈ is) (h2 : ∀ y, y ∈ is → y ≤ m) : m = n := by
  cases is with
  | nil => cases h
  | cons i is =>
    cases h
    obtain ⟨a, b⟩ := foldl_max is i
    exact Int.le_antisymm (b m h1) (h2 _ a)
theorem min_eq {is : List Int} {m n : Int} (h : minL is = some n) (h1 : m ∈ is) (h2 : ∀ y, y ∈ is → m ≤ y) : m = n := by
  cases is with
  | nil => cases h
  | cons i is =>
    cases h
    obtain ⟨a, b⟩ := foldl_min is i
    exact Int.le_antisymm (h2 _ a) (b m h1)
theorem maxL_pos {is : List Int} {n : Int} (h : maxL is = some n) : 0 < is.length := by
  cases is with
  | nil => cases h
  | cons => simp
theorem minL_pos {is : List Int} {n : Int} (h : minL is = some n) : 0 < is.length := by
  cases is with
  | nil => cases h
  | cons => simp
theorem n_max : OpN K (rMax K) true gMax := fun H R L xs ds d Q r hf e k => by
  unfold gMax at e
  split at e
  · obtain ⟨x, rfl, rx⟩ := one_arg r rfl
    obtain ⟨is, hi, hd⟩ := Option.bind_eq_some_iff.mp e
    obtain ⟨n, hn, hd⟩ := Option.map_eq_some_iff.mp hd
    subst hd
    obtain ⟨p, vs, rfl, hp, rr⟩ := rx.lst
    rw [ints_reps hi rr] at hp
    exact ⟨p, is, rfl, SqL.of hp, maxL_pos hn, fun m h1 h2 => by rw [max_eq hn h1 h2]; exact k _ H (fun _ _ h => h) .int nv⟩
  · obtain ⟨x, rfl, rx⟩ := one_arg r rfl
    obtain ⟨n, hn, hd⟩ := Option.map_eq_some_iff.mp e
    subst hd
    obtain ⟨p, rfl, hp⟩ := rx.frl
    exact ⟨p, _, rfl, hp, maxL_pos hn, fun m h1 h2 => by rw [max_eq hn h1 h2]; exact k _ H (fun _ _ h => h) .int nv⟩
  · cases e
theorem n_min : OpN K (rMin K) true gMin := fun H R L xs ds d Q r hf e k => by
  unfold gMin at e
  split at e
  · obtain ⟨x, rfl, rx⟩ := one_arg r rfl
    obtain ⟨is, hi, hd⟩ := Option.bind_eq_some_iff.mp e
    obtain ⟨n, hn, hd⟩ := Option.map_eq_some_iff.mp hd
    subst hd
    obtain ⟨p, vs, rfl, hp, rr⟩ := rx.lst
    rw [ints_reps hi rr] at hp
    exact ⟨p, is, rfl, SqL.of hp, minL_pos hn, fun m h1 h2 => by rw [min_eq hn h1 h2]; exact k _ H (fun _ _ h => h) .int nv⟩
  · obtain ⟨x, rfl, rx⟩ := one_arg r rfl
    obtain ⟨n, hn, hd⟩ := Option.map_eq_some_iff.mp e
    subst hd
    obtain ⟨p, rfl, hp⟩ := rx.frl
    exact ⟨p, _, rfl, hp, minL_pos hn, fun m h1 h2 => by rw [min_eq hn h1 h2]; exact k _ H (fun _ _ h => h) .int nv⟩
  · cases e
end
end GR
/-! GZ -/
set_option linter.all false
set_option maxRecDepth 100000
/-! Texts times 0 or 1; chains; slices; sorted. -/
namespace GR
open PySem L2
variable [TabT]
/-! ### * -/
def gMul3 : D → D → Option D
  | .str x, .int n => if n = 0 then some (.str Str.empty) else if n = 1 then some (.str x) else none
  | a, b => gMul a b
def rMulS : R2 := fun x y H Q => ∃ z n, x = .str z ∧ y = .int n ∧ ((n = 0 ∧ Q (.str Str.empty) H) ∨ (n = 1 ∧ Q (.str z) H))
theorem op_mulS {X : Cx} : OpR X (binaryOp .Mult) rMulS := by
  intro pins s σ H x y v u Q I rx ry h
  obtain ⟨z, n, rfl, rfl, h⟩ := h
  obtain ⟨t, rfl⟩ := rx
  obtain ⟨t2, rfl⟩ := ry
  rcases h with ⟨hn, q⟩ | ⟨hn, q⟩
  · subst hn
    exact PySem.P.mul_str_none (by decide) (by decide) ⟨.str Str.empty, H, I.tok _, ⟨_, rfl⟩, q⟩
  · subst hn
    refine PySem.P.mul_str (by decide) (fun _ h => ?_) (fun _ h => ?_) ?_
    · simp at h
    · simp at h
    · rw [if_neg (by decide), if_pos (by simp)]
      exact ⟨.str z, H, I, ⟨t, rfl⟩, q⟩
def rMul3 : R2 := fun x y H Q => rMul2 x y H Q ∨ rMulS x y H Q
theorem op_mul3 {X : Cx} : OpR X (binaryOp .Mult) rMul3 := op_mul2.or op_mulS
section
variable {K : PySem.W.Frag}
theorem o2_mul3 : Op2 K rMul3 true gMul3 := fun H R L x y dx dy d Q rx ry hf e k => by
  unfold gMul3 at e
  split at e
  · rename_i z n
    obtain rfl := rx.str
    obtain rfl := ry.int
    split at e
    · rename_i hn
      cases e
      exact .inr ⟨_, _, rfl, rfl, .inl ⟨hn, k _ H (fun _ _ h => h) .str nv⟩⟩
    · split at e
      · rename_i hn
        cases e
        exact .inr ⟨_, _, rfl, rfl, .inr ⟨hn, k _ H (fun _ _ h => h) .str nv⟩⟩
      · cases e
  · exact .inl (o2_mul H R L x y dx dy d Q rx ry hf e k)
end
/-! ### a < b < c -/
def fChain (g1 g2 : D → D → Option D) (fa fb fc : EF) : EF := fun env => match fa env with
  | some (.val da, e1) => match fb e1 with
    | some (.val db, e2) => match g1 da db with
      | some (.bl true) => match fc e2 with
        | some (.val dc, e3) => match g2 db dc with
          | some d => some (.val d, e3)
          | none => none
        | some (.exc C d, e3) => some (.exc C d, e3)
        | _ => none
      | some (.bl false) => some (.val (.bl false), e2)
      | _ => none
    | some (.exc C d, e2) => some (.exc C d, e2)
    | _ => none
  | some (.exc C d, e1) => some (.exc C d, e1)
  | _ => none
section
variable {X : Cx} {g : Cfg} {W : WX} {tn ta tb tc : Bool} {a b c : Expr} {fa fb fc : EF} {pos : Pos} {op op' : CmpOp} {r r' : R2} {g1 g2 : D → D → Option D}
theorem chain_rd {X : Cx} {g : Cfg} {W : WX} {ta tb tc : Bool} {fa fb fc : EF} {r r' : R2} {g1 g2 : D → D → Option D} {σ : L2.St} {H : Hp} {Q : VK} (h1 : Op2 X.K r true g1) (h2 : Op2 X.K r' true g2) (h : DEr X.K g W true (fChain g1 g2 fa fb fc) σ H Q) : tChain r r' (DEr X.K g W ta fa) (DEr X.K g W tb fb) (DEr X.K g W tc fc) σ H Q := by
  obtain ⟨G, B, env, rr, env', ok, ee, k, x⟩ := h.out
  unfold fChain at ee
  cases e1 : fa env with
  | none => rw [e1] at ee; cases ee
  | some re =>
    obtain ⟨r1, env1⟩ := re
    rw [e1] at ee
    refine DEr.intro ok e1 (fun v H1 s l t => ?_) (fun C' d er a H' s ha => ?_)
    case refine_2 => subst er; cases ee; exact x _ _ rfl a H' s ha
    cases r1 with
    | slot i => cases ee
    | exc C d => exact l.elim
    | val da =>
      simp only at ee
      cases e2 : fb env1 with
      | none => rw [e2] at ee; cases ee
      | some re2 =>
        obtain ⟨r2, env2⟩ := re2
        rw [e2] at ee
        refine DEr.intro s.ok e2 (fun v2 H2 s2 l2 t2 => ?_) (fun C' d er a H' s2 ha => ?_)
        case refine_2 => subst er; cases ee; exact x _ _ rfl a H' (s.trans s2) ha
        cases r2 with
        | slot i => cases ee
        | exc C d => exact l2.elim
        | val db =>
          simp only at ee
          cases e3 : g1 da db with
          | none => rw [e3] at ee; cases ee
          | some d1 =>
            rw [e3] at ee
            have s12 := s.trans s2
            refine h1 H2 _ (fun _ => False) v v2 da db d1 _ (.inl (l.stp s2)) (.inl l2) (fun a h => s12.ok.fresh h) e3 fun w H3 ex rw' tw => ?_
            have s3 : Stp X.K g G B σ H env H3 env2 := s12.grow ex
            have d23 : ∀ a, H3 a = none → H2 a = none := fun a h => by
              cases q : H2 a with
              | none => rfl
              | some o => rw [ex a o q] at h; cases h
            have st23 : Stp X.K g G B σ H2 env2 H3 env2 := (Stp.refl s12.ok).grow ex
            cases d1 with
            | bl b1 =>
              cases rw'
              refine ⟨b1, rfl, ?_⟩
              cases b1 with
              | false =>
                rw [if_neg Bool.false_ne_true]
                cases ee
                exact k _ H3 s3 .bl fun _ _ _ => NewV.no (by intro p q; cases q)
              | true =>
                rw [if_pos rfl]
                simp only at ee
                cases e4 : fc env2 with
                | none => rw [e4] at ee; cases ee
                | some re4 =>
                  obtain ⟨r4, env4⟩ := re4
                  rw [e4] at ee
                  refine DEr.intro s3.ok e4 (fun v4 H4 s4 l4 t4 => ?_) (fun C' d er a H' s4 ha => ?_)
                  case refine_2 => subst er; cases ee; exact x _ _ rfl a H' (s3.trans s4) ha
                  cases r4 with
                  | slot i => cases ee
                  | exc C d => exact l4.elim
                  | val dc =>
                    simp only at ee
                    cases e5 : g2 db dc with
                    | none => rw [e5] at ee; cases ee
                    | some d5 =>
                      rw [e5] at ee
                      cases ee
                      have s34 := s3.trans s4
                      exact h2 H4 _ (fun _ => False) v2 v4 db dc d5 _ (.inl ((l2.stp st23).stp s4)) (.inl l4) (fun a h => s34.ok.fresh h) e5 fun w5 H5 ex5 r5 t5 => k w5 H5 (s34.grow ex5) r5 fun d hd ht => by
                        intro p hp
                        obtain ⟨n1, n2⟩ := t5 ht p hp
                        exact ⟨s34.dom p n1, n2⟩
            | _ => simp at ee
theorem de_chain (ho : OpR X (compareOp op) r) (h1 : Op2 X.K r true g1) (ho' : OpR X (compareOp op') r') (h2 : Op2 X.K r' true g2) (ha : DE X g W ta a fa) (hb : DE X g W tb b fb) (hc : DE X g W tc c fc)
    (hm : lastMarks [op, op'] [b, c] = false := by with_unfolding_all rfl) : DE X g W true (.Compare a [op, op'] [b, c] pos) (fChain g1 g2 fa fb fc) := (pe_chain ho ho' ha hb hc hm).imp fun _ _ _ h => chain_rd h1 h2 h
theorem dt_chain (ho : OpR X (compareOp op) r) (h1 : Op2 X.K r true g1) (ho' : OpR X (compareOp op') r') (h2 : Op2 X.K r' true g2) (ha : DE X g W ta a fa) (hb : DE X g W tb b fb) (hc : DE X g W tc c fc)
    (hm : lastMarks [op, op'] [b, c] = false := by with_unfolding_all rfl) : DT X g W (.Compare a [op, op'] [b, c] pos) (fBool (fChain g1 g2 fa fb fc)) := (pt_chain ho ho' ha hb hc hm).imp fun _ _ _ h => chain_rd h1 h2 (bool_rd h)
end
end GR
/-! HA -/
set_option linter.all false
set_option maxRecDepth 100000
/-! Comprehensions as rules; slices. -/
namespace GR
open PySem L2
variable [TabT]
theorem takes0 {X : Cx} : Takes X W0 := fun _ _ ⟨_, _, _, _, _, _, _, _, _, _, _, _, _, _, _, _, h⟩ => h.elim
section
variable {K : PySem.W.Frag} {g : Cfg} {W : WX} {tn tn' : Bool} {fe : EF} {σ : St} {H : Hp} {Dn : Ends} {i : Nat}
theorem set_rd (hi : i ∉ g.own) (hxf : exFree g i = true) (h : DSr K g W tn (fSet g i fe) Dn σ H) : DEr K g W tn' fe σ H fun v H' => Dn.nx (σ.set i (some v)) H' := by
  obtain ⟨G, env, fl, env', ok, ee, q⟩ := h
  unfold fSet at ee
  cases e1 : fe env with
  | none => rw [e1] at ee; cases ee
  | some re =>
    obtain ⟨r, env1⟩ := re
    rw [e1] at ee
    refine DEr.intro ok e1 (fun v H' s l t => ?_) (fun C d er a H' s ha => ?_)
    · have main : (match mv g r env1 with
        | some (d, e2) => some (Fl.nx, e2.set i (some d))
        | none => none) = some (fl, env') → Dn.nx (σ.set i (some v)) H' := fun ee => by
        cases e2 : mv g r env1 with
        | none => simp [e2] at ee
        | some de =>
          obtain ⟨d, env2⟩ := de
          simp only [e2] at ee
          cases ee
          obtain ⟨s2, r2, _⟩ := mv_ok s.ok l e2
          exact q _ _ (s2.ok.set hi hxf r2)
      cases r with
      | val d => exact main ee
      | slot i => exact main ee
      | exc C d => exact l.elim
    · subst er; cases ee; exact q a σ H' s.ok ha
theorem setOwn_rd (hi : i ∈ g.own) (hio : i ∉ g.io) (hxf : exFree g i = true) (h : DSr K g W tn (fSetOwn g i fe) Dn σ H) : DEr K g W true fe σ H fun v H' => Dn.nx (σ.set i (some v)) H' := by
  obtain ⟨G, env, fl, env', ok, ee, q⟩ := h
  unfold fSetOwn at ee
  cases e1 : fe env with
  | none => rw [e1] at ee; cases ee
  | some re =>
    obtain ⟨r, env1⟩ := re
    rw [e1] at ee
    refine DEr.intro ok.here e1 (fun v H' s l t => ?_) (fun C d er a H' s ha => ?_)
    · cases r with
      | val d =>
        simp only at ee
        by_cases hb : (isBox d && decide (i < env1.length)) = true
        · rw [if_pos hb] at ee
          cases ee
          have n := t d rfl rfl
          simp only [Bool.and_eq_true, decide_eq_true_eq] at hb
          obtain ⟨p, ev, hp, ho⟩ := Rep.box l n hb.1
          subst ev
          exact q _ _ (s.ok.setOwn hi hio hxf (by rw [← s.ok.len]; exact hb.2) ho (ok.dom p (n p rfl).1) (fun _ z => z (n p rfl).1) hp.2)
        · rw [if_neg hb] at ee; cases ee
      | slot i => cases ee
      | exc C d => exact l.elim
    · subst er; cases ee; exact q a σ H' s.ok.top ha
end
section
variable {X : Cx} {g : Cfg} {W : WX} {tn tn' : Bool} {elt tg iter : Expr} {ifs : List Expr} {scope : Scope} {pos spos py : Pos} {fi : IF} {ft : GT} {fc : TF} {fe : EF} {y : Str}
theorem de_comp (own : List (Str × Nat)) (hc : X.calm = true) (hN : X.N.Nodup) (ok : BlkOk X.N X.env.scope scope own) (hi : DI X g W tg iter fi)
    (hg : ∀ (s : Shared) (H : Hp) (C : Addr) (cl : List (Str × Addr)) (fp : List Addr), DG (X.blk s H scope (compEnvC scope cl C X.env) fp) g (own.map (·.2)) tg ft)
    (ht : ∀ (s : Shared) (H : Hp) (C : Addr) (cl : List (Str × Addr)) (fp : List Addr), DTs (X.blk s H scope (compEnvC scope cl C X.env) fp) g ifs fc)
    (he : ∀ (s : Shared) (H : Hp) (C : Addr) (cl : List (Str × Addr)) (fp : List Addr), DE (X.blk s H scope (compEnvC scope cl C X.env) fp) g W0 tn' elt fe)
    (hw : ∀ i ∈ own.map (·.2), i ∉ g.io := by decide) (hwo : ∀ i ∈ own.map (·.2), i ∉ g.own := by decide) (h16 : 16777216 ∉ own.map (·.2) := by decide) (hxw : ∀ x ∈ g.ex, x.1 ∉ own.map (·.2) := by exact fun x h => nomatch h)
    (hs : ∀ x, foldedSetIterable iter X.env x = pure x := by intro _; rfl) : DE X g W true (.ListComp elt [⟨tg, iter, ifs, 0⟩] scope pos) (fComp (own.map (·.2)) fi ft fc fe) :=
  (pe_lc (g := DGr X.K g (own.map fun p : Str × Nat => p.2) ft) (tt := DTr X.K g W0 fc) (te := DEr X.K g W0 tn' fe) hc hN hi ok hg ht he hs).imp fun σ H Q h => comp_rd hw hwo h16 hxw h
theorem ds_setComp (i : Nat) (own : List (Str × Nat)) (hc : X.calm = true) (hN : X.N.Nodup) (ok : BlkOk X.N X.env.scope scope own) (hi : DI X g W tg iter fi)
    (hg : ∀ (s : Shared) (H : Hp) (C : Addr) (cl : List (Str × Addr)) (fp : List Addr), DG (X.blk s H scope (compEnvC scope cl C X.env) fp) g (own.map (·.2)) tg ft)
    (ht : ∀ (s : Shared) (H : Hp) (C : Addr) (cl : List (Str × Addr)) (fp : List Addr), DTs (X.blk s H scope (compEnvC scope cl C X.env) fp) g ifs fc)
    (he : ∀ (s : Shared) (H : Hp) (C : Addr) (cl : List (Str × Addr)) (fp : List Addr), DE (X.blk s H scope (compEnvC scope cl C X.env) fp) g W0 tn' elt fe)
    (hio : i ∉ g.own := by walk_at "gmem") (hxf : exFree g i = true := by rfl) (hy : X.N[i]? = some y := by rfl) (hyl : X.env.scope.names.lookup y = some .local := by rfl)
    (hsw : swapsWith (.ListComp elt [⟨tg, iter, ifs, 0⟩] scope pos) (some (.Name y py)) spos.line X.env = pure true := by exact sw_true rfl rfl rfl rfl)
    (hw : ∀ i ∈ own.map (·.2), i ∉ g.io := by decide) (hwo : ∀ i ∈ own.map (·.2), i ∉ g.own := by decide) (h16 : 16777216 ∉ own.map (·.2) := by decide) (hxw : ∀ x ∈ g.ex, x.1 ∉ own.map (·.2) := by exact fun x h => nomatch h)
    (hs : ∀ x, foldedSetIterable iter X.env x = pure x := by intro _; rfl) : DS X g W tn (.Assign [.Name y py] (.ListComp elt [⟨tg, iter, ifs, 0⟩] scope pos) spos) (fSet g i (fComp (own.map (·.2)) fi ft fc fe)) :=
  (ps_setLc (g := DGr X.K g (own.map fun p : Str × Nat => p.2) ft) (tt := DTr X.K g W0 fc) (te := DEr X.K g W0 tn' fe) hc hN hy hyl hsw hi ok hg ht he hs).imp fun Dn σ H h => comp_rd hw hwo h16 hxw (set_rd hio hxf h)
theorem ds_setOwnComp (i : Nat) (own : List (Str × Nat)) (hc : X.calm = true) (hN : X.N.Nodup) (ok : BlkOk X.N X.env.scope scope own) (hi : DI X g W tg iter fi)
    (hg : ∀ (s : Shared) (H : Hp) (C : Addr) (cl : List (Str × Addr)) (fp : List Addr), DG (X.blk s H scope (compEnvC scope cl C X.env) fp) g (own.map (·.2)) tg ft)
    (ht : ∀ (s : Shared) (H : Hp) (C : Addr) (cl : List (Str × Addr)) (fp : List Addr), DTs (X.blk s H scope (compEnvC scope cl C X.env) fp) g ifs fc)
    (he : ∀ (s : Shared) (H : Hp) (C : Addr) (cl : List (Str × Addr)) (fp : List Addr), DE (X.blk s H scope (compEnvC scope cl C X.env) fp) g W0 tn' elt fe)
    (hin : i ∈ g.own := by walk_at "gmem") (hio : i ∉ g.io := by walk_at "gmem") (hxf : exFree g i = true := by rfl) (hy : X.N[i]? = some y := by rfl) (hyl : X.env.scope.names.lookup y = some .local := by rfl)
    (hsw : swapsWith (.ListComp elt [⟨tg, iter, ifs, 0⟩] scope pos) (some (.Name y py)) spos.line X.env = pure true := by exact sw_true rfl rfl rfl rfl)
    (hw : ∀ i ∈ own.map (·.2), i ∉ g.io := by decide) (hwo : ∀ i ∈ own.map (·.2), i ∉ g.own := by decide) (h16 : 16777216 ∉ own.map (·.2) := by decide) (hxw : ∀ x ∈ g.ex, x.1 ∉ own.map (·.2) := by exact fun x h => nomatch h)
    (hs : ∀ x, foldedSetIterable iter X.env x = pure x := by intro _; rfl) : DS X g W tn (.Assign [.Name y py] (.ListComp elt [⟨tg, iter, ifs, 0⟩] scope pos) spos) (fSetOwn g i (fComp (own.map (·.2)) fi ft fc fe)) :=
  (ps_setLc (g := DGr X.K g (own.map fun p : Str × Nat => p.2) ft) (tt := DTr X.K g W0 fc) (te := DEr X.K g W0 tn' fe) hc hN hy hyl hsw hi ok hg ht he hs).imp fun Dn σ H h => comp_rd hw hwo h16 hxw (setOwn_rd hin hio hxf h)
end
/-! ### x[a:b] -/
def cutD {α : Type} (xs : List α) (lo hi : Option Int) : List α := (xs.drop (HT.sIx xs.length 0 lo)).take (HT.sIx xs.length xs.length hi - HT.sIx xs.length 0 lo)
def gSl (lo hi : Option Int) : D → Option D
  | .lst ds => some (.lst (cutD ds lo hi))
  | .frl is => some (.lst ((cutD is lo hi).map D.int))
  | .tup ds => some (.tup (cutD ds lo hi))
  | .str z => if z.length ≤ 16777216 then some (.str (cutS z lo hi)) else none
  | _ => none
inductive RO1 where
  | none' | int (i : Int) | exc (C : Addr) (d : D)
def fPart : Option EF → Env → Option (RO1 × Env)
  | none, env => some (.none', env)
  | some f, env => match f env with
    | some (.val (.int i), e) => some (.int i, e)
    | some (.exc C d, e) => some (.exc C d, e)
    | _ => none
def RO1.opt : RO1 → Option Int
  | .int i => some i
  | _ => none
def DPr (K : PySem.W.Frag) (g : Cfg) (W : WX) (f : Env → Option (RO1 × Env)) : TO := fun σ H Q => ∃ G B env r env', EnvOk K g G B σ H env ∧ f env = some (r, env') ∧
  (∀ o, (r = .none' ∧ o = none ∨ ∃ i, r = .int i ∧ o = some i) → ∀ H', Stp K g G B σ H env H' env' → Q o H') ∧ ∀ C d, r = .exc C d → ∀ a H', Stp K g G B σ H env H' env' → ExcAt K H' (Zr G g env' σ) a d → W (.ref C) (some a) σ H'
def DP (X : Cx) (g : Cfg) (W : WX) (e : Option Expr) (f : Option EF) : Prop := PO X e (DPr X.K g W (fPart f))
theorem _root_.L2.PO.imp {X : Cx} {e : Option Expr} {t t' : TO} (h : PO X e t) (m : ∀ σ H Q, t' σ H Q → t σ H Q) : PO X e t' := ⟨fun pins s σ H Q I q => h.run pins s σ H Q I (m σ H Q q)⟩
section
variable {X : Cx} {g : Cfg} {W : WX} {tn ta : Bool} {e : Expr} {lo hi : Option Expr} {fe : EF} {fl fh : Option EF} {pos p2 : Pos}
theorem dp_none : DP X g W none none := po_none.imp fun σ H Q ⟨G, B, env, r, env', ok, e, k, _⟩ => by
  cases e
  exact k none (.inl ⟨rfl, rfl⟩) H (Stp.refl ok)
theorem dp_some (h : DE X g W ta e fe) : DP X g W (some e) (some fe) := (po_some h).imp fun σ H Q ⟨G, B, env, r, env', ok, ee, k, x⟩ => by
  unfold fPart at ee
  cases e1 : fe env with
  | none => simp [e1] at ee
  | some re =>
    obtain ⟨r1, env1⟩ := re
    simp only [e1] at ee
    refine DEr.intro ok e1 (fun v H1 s l t => ?_) (fun C' d er a H' s ha => ?_)
    · cases r1 with
      | slot i => cases ee
      | exc C d => exact l.elim
      | val d =>
        cases d with
        | int i => cases ee; cases l; exact ⟨i, rfl, k _ (.inr ⟨i, rfl, rfl⟩) H1 s⟩
        | _ => cases ee
    · subst er; cases ee; exact x _ _ rfl a H' s ha
def fSlice (fe : EF) (fl fh : Option EF) : EF := bind1 fe fun r e1 => match fPart fl e1 with
  | some (.exc C d, e2) => some (.exc C d, e2)
  | some (l, e2) => match fPart fh e2 with
    | some (.exc C d, e3) => some (.exc C d, e3)
    | some (h, e3) => match res r e3 with
      | some d => match gSl l.opt h.opt d with
        | some d' => some (.val d', e3)
        | none => none
      | none => none
    | none => none
  | none => none
def rSl4 (K : PySem.W.Frag) : V → Option Int → Option Int → Hp → VK → Prop := fun x lo hi H Q => rSlL K x lo hi H Q ∨ rSlA K x lo hi H Q ∨ rSlS x lo hi H Q
theorem reps_cut {K : PySem.W.Frag} {H : Hp} {R : Reg} {vs : List V} {ds : List D} (r : Reps K H R vs ds) (lo hi : Option Int) : Reps K H R (cutV vs lo hi) (cutD ds lo hi) := by
  unfold cutV cutD
  rw [r.len]
  exact (r.drop _).take _
theorem cut_all {ds : List D} {lo hi : Option Int} (h1 : HT.sIx ds.length 0 lo = 0) (h2 : HT.sIx ds.length ds.length hi = ds.length) : cutD ds lo hi = ds := by
  unfold cutD
  rw [h1, h2]; simp
theorem sl_ok {K : PySem.W.Frag} {H : Hp} {R L : Reg} {x : V} {dx d : D} {lo hi : Option Int} {Q : VK} (rx : RepB K H R L x dx) (hf : ∀ a, H a = none → R a) (e : gSl lo hi dx = some d) (k : ∀ v H', (∀ a o, H a = some o → H' a = some o) → Rep K H' R v d → Q v H') : rSl4 K x lo hi H Q := by
  unfold gSl at e
  split at e
  · cases e
    obtain ⟨p, vs, rfl, hp, rr⟩ := rx.lst
    exact .inl ⟨p, vs, rfl, SqL.of hp, fun l hl => k _ _ (upd_same_of hl) (Rep.newLst hl (hf l hl) (reps_cut rr lo hi))⟩
  · rename_i is
    cases e
    obtain ⟨p, rfl, hp⟩ := rx.frl
    refine .inl ⟨p, _, rfl, hp, fun l hl => ?_⟩
    have : cutV (is.map V.int) lo hi = (cutD is lo hi).map V.int := by
      unfold cutV cutD
      rw [List.length_map, List.map_take, List.map_drop]
    rw [this]
    exact k _ _ (upd_same_of hl) (Rep.newLst hl (hf l hl) (reps_ints _))
  · rename_i ds
    cases e
    obtain ⟨p, vs, rfl, hp, rr⟩ := rx.tup
    refine .inr (.inl ⟨p, vs, rfl, hp, fun ⟨h1, h2⟩ => ?_, fun _ l hl => k _ _ (upd_same_of hl) (Rep.newTup hl (reps_cut rr lo hi))⟩)
    rw [rr.len] at h1 h2
    rw [cut_all h1 h2] at k
    exact k _ H (fun _ _ h => h) (.tup hp rr)
  · split at e
    · rename_i z hz
      cases e
      obtain rfl := rx.str
      exact .inr (.inr ⟨z, rfl, by rw [sizeLine_eq]; exact hz, k _ H (fun _ _ h => h) .str⟩)
    · cases e
  · cases e
theorem sl_any {X : Cx} : SlR X (rSl4 X.K) := sl_list.or (sl_tupA.or sl_str)
theorem de_slice (he : DE X g W ta e fe) (hl : DP X g W lo fl) (hu : DP X g W hi fh) : DE X g W false (.Subscript e (.Slice lo hi none p2) pos) (fSlice fe fl fh) := (pe_slice sl_any he hl hu).imp fun σ H Q h => by
  obtain ⟨G, B, env, r, env', ok, ee, k, x⟩ := h.out
  unfold fSlice at ee
  refine bind1_use (tn' := ta) ok ee (fun C d e1 ea eo a H' s ha => ?_) (by simp) (fun r1 e1 v H1 ea nx ek s l t => ?_)
  · cases eo; exact x _ _ rfl a H' s ha
  · cases e2 : fPart fl e1 with
    | none => rw [e2] at ek; cases ek
    | some re2 =>
      obtain ⟨r2, env2⟩ := re2
      rw [e2] at ek
      refine ⟨G, B, e1, r2, env2, s.ok, e2, fun o ho H2 s2 => ?_, fun C d er a H' s2 ha => ?_⟩
      · have hopt : r2.opt = o := by
          rcases ho with ⟨rfl, rfl⟩ | ⟨i, rfl, rfl⟩ <;> rfl
        have ek' : (match fPart fh env2 with
            | some (.exc C d, e3) => some (R1.exc C d, e3)
            | some (h, e3) => match res r1 e3 with
              | some d => match gSl r2.opt h.opt d with
                | some d' => some (.val d', e3)
                | none => none
              | none => none
            | none => none) = some (r, env') := by
          rcases ho with ⟨rfl, rfl⟩ | ⟨i, rfl, rfl⟩ <;> exact ek
        have s12 := s.trans s2
        cases e3 : fPart fh env2 with
        | none => rw [e3] at ek'; cases ek'
        | some re3 =>
          obtain ⟨r3, env3⟩ := re3
          rw [e3] at ek'
          refine ⟨G, B, env2, r3, env3, s12.ok, e3, fun o2 ho2 H3 s3 => ?_, fun C d er a H' s3 ha => ?_⟩
          · have hopt2 : r3.opt = o2 := by
              rcases ho2 with ⟨rfl, rfl⟩ | ⟨i, rfl, rfl⟩ <;> rfl
            have s13 := s12.trans s3
            have ek2 : (match res r1 env3 with
              | some d => match gSl r2.opt r3.opt d with
                | some d' => some (R1.val d', env3)
                | none => none
              | none => none) = some (r, env') := by
              rcases ho2 with ⟨rfl, rfl⟩ | ⟨i, rfl, rfl⟩ <;> exact ek'
            cases e4 : res r1 env3 with
            | none => rw [e4] at ek2; cases ek2
            | some dx =>
              rw [e4] at ek2
              simp only at ek2
              cases e5 : gSl r2.opt r3.opt dx with
              | none => rw [e5] at ek2; cases ek2
              | some d' =>
                rw [e5] at ek2
                cases ek2
                rw [hopt, hopt2] at e5
                exact sl_ok (((l.stp s2).stp s3).res s13.ok e4) (fun a h => s13.ok.fresh h) e5 fun v' H' ex rv => k v' H' (s13.grow ex) rv fun _ _ z => nomatch z
          · subst er; cases ek'; exact x _ _ rfl a H' (s12.trans s3) ha
      · subst er; cases ek; exact x _ _ rfl a H' (s.trans s2) ha
end
end GR
/-! HB -/
set_option linter.all false
set_option maxRecDepth 100000
/-! a, b = x, y with new things among them. -/
namespace GR
open PySem L2
variable [TabT]
/-- own: the value is a new list or dict, for a slot of ours -/
def fPar (g : Cfg) : List (Bool × EF) → Env → Option (RA × Env)
  | [], env => some (.vals [], env)
  | (own, f) :: fs, env => match f env with
    | some (.exc C d, e) => some (.exc C d, e)
    | some (r, e) => match (if own = true then (match r with
        | .val d => if isBox d = true then some (d, e) else none
        | _ => none) else mv g r e) with
      | some (d, e2) => match fPar g fs e2 with
        | some (.vals rs, e3) => some (.vals (.val d :: rs), e3)
        | some (.exc C d, e3) => some (.exc C d, e3)
        | none => none
      | none => none
    | none => none
/-- the new things are at P; those so far at ps -/
inductive PV (K : PySem.W.Frag) (g : Cfg) (G : Gnd) (σ : St) (H : Hp) (env : Env) (P : List Addr) : List Bool → List V → List R1 → List Addr → Prop
  | nil : PV K g G σ H env P [] [] [] []
  | val {bs : List Bool} {vs : List V} {rs : List R1} {ps : List Addr} {v : V} {d : D} : Rep K H (fun a => Zr G g env σ a ∧ a ∉ P) v d → PV K g G σ H env P bs vs rs ps → PV K g G σ H env P (false :: bs) (v :: vs) (.val d :: rs) ps
  | box {bs : List Bool} {vs : List V} {rs : List R1} {ps : List Addr} {p : Addr} {d : D} : OwnAt K H (fun a => Zr G g env σ a ∧ a ∉ P) p d → PV K g G σ H env P bs vs rs ps → PV K g G σ H env P (true :: bs) (.ref p :: vs) (.val d :: rs) (p :: ps)
section
variable {K : PySem.W.Frag} {g : Cfg} {G G' : Gnd} {B : Nat → Reg} {H H' H1 : Hp} {σ σ' : St} {env env' env1 : Env} {p : Addr} {P P' ps : List Addr} {d : D} {v : V} {W : WX} {bs : List Bool} {vs : List V} {rs : List R1}
theorem PV.mono (m : ∀ a, Zr G g env σ a ∧ a ∉ P → Zr G' g env σ a ∧ a ∉ P') (h : PV K g G σ H env P bs vs rs ps) : PV K g G' σ H env P' bs vs rs ps := by
  induction h with
  | nil => exact .nil
  | val r _ ih => exact .val (r.mono m) ih
  | box h2 _ ih => exact .box (h2.mono m) ih
/-- a new thing waits: the ground knows it -/
theorem EnvOk.pend {o : HO} (ok : EnvOk K g G B σ H env) (hp : H p = some o) (hB : ∀ i, ¬ B i p) (nl : ¬ Live g env σ p) : EnvOk K g (G.tmp p o) B σ H env := by
  have zr : ∀ (i : Nat) a, Zr G g env σ a ∧ B i a → Zr (G.tmp p o) g env σ a ∧ B i a := fun i a x => ⟨tmp_zr x.1 fun q => hB i (by rw [← q]; exact x.2), x.2⟩
  exact {
    len := ok.len
    val := fun i d e n => by
      obtain ⟨v, h1, h2⟩ := ok.val i d e n
      exact ⟨v, h1, h2.mono (zr i)⟩
    own := fun i d e n => by
      obtain ⟨q, h1, h2, h3, h4⟩ := ok.own i d e n
      have nq : q ≠ p := fun z => nl ⟨i, d, n, e, by rw [← z]; exact h1⟩
      exact ⟨q, h1, h2.mono (zr i), h3, fun x => (if_neg nq).trans (h4 x)⟩
    io := ok.io
    ioall := ok.ioall
    apart := ok.apart
    base := fun a u n h => by
      have h' : (if a = p then some o else G.H0 a) = some u := h
      by_cases q : a = p
      · rw [if_pos q] at h'; cases h'; rw [q]; exact ⟨_, hp, .refl _⟩
      · rw [if_neg q] at h'; exact ok.base a u n h'
    tab := ok.tab
    dom := fun a h => by
      show (if a = p then some o else G.H0 a) = none
      by_cases q : a = p
      · subst q; rw [hp] at h; cases h
      · rw [if_neg q]; exact ok.dom a h
    ap := fun i a h x => ok.ap i a h x.1
    hold := fun x q => x.mono _ _ _ (ok.hold x q) (zr _)
    ex := ok.ex }
def DParr (K : PySem.W.Frag) (g : Cfg) (W : WX) (fs : List (Bool × EF)) : TA := fun σ H Q => ∃ G B env r env', EnvOk K g G B σ H env ∧ (∀ i a, B i a → H a ≠ none) ∧ fPar g fs env = some (r, env') ∧
  (∀ rs, r = .vals rs → ∀ vs H' P, Stp K g G B σ H env H' env' → P.Nodup → (∀ p ∈ P, H p = none ∧ ¬ Live g env' σ p) → PV K g G σ H' env' P (fs.map Prod.fst) vs rs P → Q vs H') ∧
  ∀ C d, r = .exc C d → ∀ a H', Stp K g G B σ H env H' env' → ExcAt K H' (Zr G g env' σ) a d → W (.ref C) (some a) σ H'
end
section
variable {X : Cx} {g : Cfg} {W : WX} {tn : Bool} {e : Expr} {es : List Expr} {fe : EF} {fs : List (Bool × EF)} {b : Bool}
theorem dpar_nil : PA X [] (DParr X.K g W []) := pa_nil.imp fun σ H Q ⟨G, B, env, r, env', ok, hB, e, k, _⟩ => by
  cases e
  exact k [] rfl [] H [] (Stp.refl ok) .nil (fun p h => nomatch h) .nil
theorem dpar_cons (he : DE X g W tn e fe) (hb : (!b || tn) = true) (hr : PA X es (DParr X.K g W fs)) (hs : starEach (e :: es) X.env = (false, eval e X.env) :: starEach es X.env := by rfl) : PA X (e :: es) (DParr X.K g W ((b, fe) :: fs)) :=
  (pa_cons he hr hs).imp fun σ H Q ⟨G, B, env, r0, env', ok, hB, eo, kv, kx⟩ => by
  unfold fPar at eo
  cases e1 : fe env with
  | none => rw [e1] at eo; cases eo
  | some re =>
    obtain ⟨r, env1⟩ := re
    rw [e1] at eo
    refine DEr.intro ok e1 (fun v H1 s l t => ?_) (fun C d er a H1 s ha => ?_)
    case refine_2 => subst er; cases eo; exact kx C d rfl a H1 s ha
    have hB1 : ∀ i a, B i a → H1 a ≠ none := fun i a h z => hB i a h (s.dom a z)
    have eo' : (match (if b = true then (match r with
        | .val d => if isBox d = true then some (d, env1) else none
        | _ => none) else mv g r env1) with
      | some (d, e2) => match fPar g fs e2 with
        | some (.vals rs, e3) => some (RA.vals (.val d :: rs), e3)
        | some (.exc C d, e3) => some (.exc C d, e3)
        | none => none
      | none => none) = some (r0, env') := by
      cases r with
      | val d => exact eo
      | slot i => exact eo
      | exc C d => exact l.elim

    cases b with
    | false =>
      rw [if_neg Bool.false_ne_true] at eo'
      cases e2 : mv g r env1 with
      | none => rw [e2] at eo'; cases eo'
      | some de =>
        obtain ⟨d, env2⟩ := de
        rw [e2] at eo'
        simp only at eo'
        obtain ⟨s2, rd, _⟩ := mv_ok s.ok l e2
        have s12 := s.trans s2
        cases e3 : fPar g fs env2 with
        | none => rw [e3] at eo'; cases eo'
        | some re3 =>
          obtain ⟨r3, env3⟩ := re3
          rw [e3] at eo'
          refine ⟨G, B, env2, r3, env3, s12.ok, hB1, e3, fun rs er vs H' P st nd fr pv => ?_, fun C d' er a H' st ha => ?_⟩
          · subst er; cases eo'
            refine kv _ rfl (v :: vs) H' P (s12.trans st) nd (fun p hp => ⟨s.dom p (fr p hp).1, (fr p hp).2⟩) (.val ?_ pv)
            have fz : Fr (fun a => Zr G g env2 σ a ∧ H1 a ≠ none) H1 H' := st.fr.mono fun a x => x.1.2
            exact (rd.alloc.fr fz).mono fun a x => ⟨st.zr a x.1, fun m => x.2 (fr a m).1⟩
          · subst er; cases eo'
            exact kx _ _ rfl a H' (s12.trans st) ha
    | true =>
      rw [if_pos rfl] at eo'
      have htn : tn = true := by simpa using hb
      cases r with
      | slot i => cases eo'
      | exc C d => exact l.elim
      | val d =>
        simp only at eo'
        by_cases hbx : isBox d = true
        · rw [if_pos hbx] at eo'
          simp only at eo'
          have n := t d rfl htn
          obtain ⟨p, rfl, hR, ow⟩ := Rep.box l n hbx
          obtain ⟨o, ho, bx⟩ := ow.box
          have hn := (n p rfl).1
          have h0 : G.H0 p = none := ok.dom p hn
          have nl : ¬ Live g env1 σ p := hR.2
          have npa : ∀ i, (i, p) ∉ G.pa := fun i hi => by
            obtain ⟨_, h1, h2, d', h3⟩ := s.ok.io i p hi
            exact nl ⟨i, d', h1, h3, h2⟩
          have okp := s.ok.pend ho (fun i h => hB i p h hn) nl
          cases e3 : fPar g fs env1 with
          | none => rw [e3] at eo'; cases eo'
          | some re3 =>
            obtain ⟨r3, env3⟩ := re3
            rw [e3] at eo'
            have back : ∀ {H' : Hp}, Stp X.K g (G.tmp p o) B σ H1 env1 H' env3 → Stp X.K g G B σ H1 env1 H' env3 := fun {H'} st => ⟨st.ok.done h0 s.ok.ap, st.fr, st.live, st.dom⟩
            refine ⟨G.tmp p o, B, env1, r3, env3, okp, hB1, e3, fun rs er vs H' P st nd fr pv => ?_, fun C d' er a H' st ha => ?_⟩
            · subst er; cases eo'
              have hpP : p ∉ P := fun m => by rw [(fr p m).1] at ho; cases ho
              have st' := back st
              refine kv _ rfl (.ref p :: vs) H' (p :: P) (s.trans st') (List.nodup_cons.mpr ⟨hpP, nd⟩) (fun q hq => ?_) (.box ?_ (pv.mono fun a x => ?_))
              · rcases List.mem_cons.mp hq with rfl | hq
                · exact ⟨hn, fun lv => nl (st.live _ lv)⟩
                · exact ⟨s.dom q (fr q hq).1, (fr q hq).2⟩
              · have fz : Fr (fun a => (Zr G g env1 σ a ∧ a ≠ p) ∧ H1 a ≠ none) H1 H' := st.fr.mono fun a x => x.1.1.2
                refine (ow.alloc.fr (fun o' h => ?_) fz).mono fun a x => ⟨st'.zr a x.1.1, fun m => ?_⟩
                · rw [ho] at h; cases h; exact st.ok.at npa bx.noTbl
                · rcases List.mem_cons.mp m with rfl | m
                  · exact x.1.2 rfl
                  · exact x.2 (fr a m).1
              · obtain ⟨h1, h2⟩ := zr_tmp a x.1
                exact ⟨h1, fun m => by
                  rcases List.mem_cons.mp m with rfl | m
                  · exact h2 rfl
                  · exact x.2 m⟩
            · subst er; cases eo'
              obtain ⟨w, h1, h2⟩ := ha
              exact kx _ _ rfl a H' (s.trans (back st)) ⟨w, h1, h2.mono fun a x => (zr_tmp a x).1⟩
        · rw [if_neg hbx] at eo'; cases eo'
end
/-! ### then all are set -/
def setsV : List Nat → List V → St → St
  | i :: is, v :: vs, σ => setsV is vs (σ.set i (some v))
  | _, _, σ => σ
def setsD : List Nat → List R1 → Env → Env
  | i :: is, .val d :: rs, env => setsD is rs (env.set i (some d))
  | _, _, env => env
/-- each slot is of its kind -/
def parFit (g : Cfg) : List Nat → List Bool → Bool
  | [], [] => true
  | i :: is, b :: bs => (if b = true then g.own.contains i && !g.io.contains i else !g.own.contains i) && exFree g i && parFit g is bs
  | _, _ => false
section
variable {K : PySem.W.Frag} {g : Cfg} {G : Gnd} {H : Hp} {σ : St} {env : Env} {P : List Addr}
theorem par_set : ∀ {bs : List Bool} {vs : List V} {rs : List R1} {ps : List Addr} {is : List Nat} {σ' : St} {env' : Env}, PV K g G σ H env P bs vs rs ps → EnvOk K g G (fun _ a => a ∉ P) σ' H env' → parFit g is bs = true → (∀ p ∈ ps, p ∈ P) → ps.Nodup → (∀ p ∈ ps, G.H0 p = none ∧ ¬ Live g env' σ' p) →
    (∀ a, Zr G g env σ a ∧ a ∉ P → Zr G g env' σ' a) → (∀ i ∈ is, i < σ'.length) → EnvOk K g G Top (setsV is vs σ') H (setsD is rs env')
  | _, _, _, _, [], _, _, .nil, ok, _, _, _, _, _, _ => ok.top
  | _, _, _, _, _ :: _, _, _, .nil, ok, fit, _, _, _, _, _ => by cases fit
  | _, _, _, _, [], _, _, .val _ _, ok, fit, _, _, _, _, _ => by cases fit
  | _, _, _, _, [], _, _, .box _ _, ok, fit, _, _, _, _, _ => by cases fit
  | _, _, _, ps, i :: is, σ', env', .val (v := v) (d := d) r pv, ok, fit, sub, nd, new, zr, lt => by
    simp only [parFit, Bool.and_eq_true] at fit
    rw [if_neg Bool.false_ne_true] at fit
    obtain ⟨⟨f1, f2⟩, f3⟩ := fit
    have hi : i ∉ g.own := of_nmem (by simpa using f1)
    have ok2 := ok.setR hi f2 (r.mono fun a x => ⟨zr a x, x.2⟩)
    show EnvOk K g G Top (setsV is _ (σ'.set i (some v))) H (setsD is _ (env'.set i (some d)))
    exact par_set pv ok2 f3 sub nd (fun p hp => ⟨(new p hp).1, fun l => (new p hp).2 ((live_set hi p).mp l)⟩) (fun a x => ⟨(zr a x).1, fun l => (zr a x).2 ((live_set hi a).mp l)⟩) (fun j hj => by rw [List.length_set]; exact lt j (List.mem_cons_of_mem _ hj))
  | _, _, _, _, i :: is, σ', env', .box (ps := ps) (p := p) (d := d) ow pv, ok, fit, sub, nd, new, zr, lt => by
    simp only [parFit, Bool.and_eq_true, if_true] at fit
    obtain ⟨⟨f1, f2⟩, f3⟩ := fit
    have hi : i ∈ g.own := of_mem f1.1
    have hio : i ∉ g.io := of_nmem (by simpa using f1.2)
    have hpP := sub p List.mem_cons_self
    have hl := lt i List.mem_cons_self
    obtain ⟨n1, n2⟩ := new p List.mem_cons_self
    have ok2 := ok.setOwnB hi hio f2 hl (ow.mono fun a x => ⟨⟨zr a x, fun q => x.2 (by rw [q]; exact hpP)⟩, x.2⟩) n1 (fun _ h => h hpP) n2
    have lv : ∀ a, Live g (env'.set i (some d)) (σ'.set i (some (.ref p))) a → Live g env' σ' a ∨ a = p := by
      rintro a ⟨j, d', h1, h2, h3⟩
      rcases get_set_of h2 with ⟨rfl, e'⟩ | ⟨ne, e'⟩
      · rw [List.getElem?_set, if_pos rfl, if_pos hl] at h3
        injection h3 with h3; injection h3 with h3; injection h3 with h3
        exact .inr h3.symm
      · rw [set_get_ne ne] at h3
        exact .inl ⟨j, d', h1, e', h3⟩
    obtain ⟨hnp, nd'⟩ := List.nodup_cons.mp nd
    show EnvOk K g G Top (setsV is _ (σ'.set i (some (.ref p)))) H (setsD is _ (env'.set i (some d)))
    exact par_set pv ok2 f3 (fun q hq => sub q (List.mem_cons_of_mem _ hq)) nd' (fun q hq => ⟨(new q (List.mem_cons_of_mem _ hq)).1, fun l => by
        rcases lv q l with l | l
        · exact (new q (List.mem_cons_of_mem _ hq)).2 l
        · subst l; exact hnp hq⟩) (fun a x => ⟨(zr a x).1, fun l => by
        rcases lv a l with l | l
        · exact (zr a x).2 l
        · subst l; exact x.2 hpP⟩) (fun j hj => by rw [List.length_set]; exact lt j (List.mem_cons_of_mem _ hj))
end
def fPars (g : Cfg) (is : List Nat) (fs : List (Bool × EF)) : SF := fun env => match fPar g fs env with
  | some (.vals rs, e) => if (is.all fun i => decide (i < e.length)) = true then some (.nx, setsD is rs e) else none
  | some (.exc C d, e) => some (.exc C d, e)
  | none => none
section
variable {K : PySem.W.Frag} {g : Cfg} {W : WX} {tn : Bool} {σ : St} {H : Hp} {Dn : Ends} {is : List Nat} {fs : List (Bool × EF)}
theorem par_rd (fit : parFit g is (fs.map Prod.fst) = true) (h : DSr K g W tn (fPars g is fs) Dn σ H) : DParr K g W fs σ H fun vs H' => Dn.nx (setsV is vs σ) H' := by
  obtain ⟨G, env, fl, env', ok, ee, q⟩ := h
  unfold fPars at ee
  cases e1 : fPar g fs env with
  | none => rw [e1] at ee; cases ee
  | some re =>
    obtain ⟨r, env1⟩ := re
    rw [e1] at ee
    refine ⟨G, _, env, r, env1, ok.here, fun i a h => h, e1, fun rs er vs H' P st nd fr pv => ?_, fun C d er a H' st ha => ?_⟩
    · subst er
      simp only at ee
      split at ee
      · rename_i hl
        cases ee
        refine q _ _ (par_set pv (st.ok.monoB fun i a h m => h (fr a m).1) fit (fun _ h => h) nd (fun p hp => ⟨ok.dom p (fr p hp).1, (fr p hp).2⟩) (fun a x => x.1) fun i hi => ?_)
        have := List.all_eq_true.mp hl i hi
        rw [← st.ok.len]; simpa using this
      · cases ee
    · subst er; cases ee
      exact q a σ H' st.ok.top ha
end
section
variable {X : Cx} {g : Cfg} {W : WX} {tn ta tb tc ba bb bc : Bool} {a b c : Expr} {fa fb fc : EF} {x y z : Str} {px py pz pt pos : Pos} {kt : Nat} {pt2 : Pos} {k2 : Nat}
theorem ds_par2 (i j : Nat) (ba bb : Bool) (hc : X.calm = true) (hN : X.N.Nodup) (ha : DE X g W ta a fa) (hb : DE X g W tb b fb) (hta : (!ba || ta) = true := by rfl) (htb : (!bb || tb) = true := by rfl) (fit : parFit g [i, j] [ba, bb] = true := by rfl)
    (hi : X.N[i]? = some x := by rfl) (hj : X.N[j]? = some y := by rfl) (hij : i ≠ j := by decide) (hx : X.env.scope.names.lookup x = some .local := by rfl) (hy : X.env.scope.names.lookup y = some .local := by rfl)
    (hw : swappedStores [.Tuple [.Name x px, .Name y py] kt pt] (.Tuple [a, b] k2 pt2) X.env = pure (some [x, y]) := by rfl) (hs : swapsWithSole [.Tuple [.Name x px, .Name y py] kt pt] (.Tuple [a, b] k2 pt2) pos.line X.env = pure false := by rfl)
    (hs1 : starEach [a, b] X.env = (false, eval a X.env) :: starEach [b] X.env := by rfl) (hs2 : starEach [b] X.env = (false, eval b X.env) :: starEach [] X.env := by rfl) :
    DS X g W tn (.Assign [.Tuple [.Name x px, .Name y py] kt pt] (.Tuple [a, b] k2 pt2) pos) (fPars g [i, j] [(ba, fa), (bb, fb)]) :=
  (ps_par hc hN hi hj hij hx hy (dpar_cons ha hta (dpar_cons hb htb dpar_nil hs2) hs1) hw hs).imp fun Dn σ H h => by
    obtain ⟨G, B, env, r, env', ok, hB, e, kv, kx⟩ := par_rd (is := [i, j]) (fs := [(ba, fa), (bb, fb)]) fit h
    refine ⟨G, B, env, r, env', ok, hB, e, fun rs er vs H' P st nd fr pv => ?_, kx⟩
    have q := kv rs er vs H' P st nd fr pv
    have hl : vs.length = 2 := by
      have : ∀ {bs vs rs ps}, PV X.K g G σ H' env' P bs vs rs ps → vs.length = bs.length := fun h => by
        induction h with
        | nil => rfl
        | val _ _ ih => simp [ih]
        | box _ _ ih => simp [ih]
      simpa using this pv
    match vs, hl with
    | [v, w], _ => exact ⟨v, w, rfl, q⟩
theorem ds_par3 (i j l : Nat) (ba bb bc : Bool) (hc : X.calm = true) (hN : X.N.Nodup) (ha : DE X g W ta a fa) (hb : DE X g W tb b fb) (hcc : DE X g W tc c fc) (hta : (!ba || ta) = true := by rfl) (htb : (!bb || tb) = true := by rfl) (htc : (!bc || tc) = true := by rfl) (fit : parFit g [i, j, l] [ba, bb, bc] = true := by rfl)
    (hi : X.N[i]? = some x := by rfl) (hj : X.N[j]? = some y := by rfl) (hl : X.N[l]? = some z := by rfl) (hij : i ≠ j := by decide) (hil : i ≠ l := by decide) (hjl : j ≠ l := by decide) (hx : X.env.scope.names.lookup x = some .local := by rfl) (hy : X.env.scope.names.lookup y = some .local := by rfl) (hz : X.env.scope.names.lookup z = some .local := by rfl)
    (hw : swappedStores [.Tuple [.Name x px, .Name y py, .Name z pz] kt pt] (.Tuple [a, b, c] k2 pt2) X.env = pure (some [x, y, z]) := by rfl) (hs : swapsWithSole [.Tuple [.Name x px, .Name y py, .Name z pz] kt pt] (.Tuple [a, b, c] k2 pt2) pos.line X.env = pure false := by rfl)
    (hs1 : starEach [a, b, c] X.env = (false, eval a X.env) :: starEach [b, c] X.env := by rfl) (hs2 : starEach [b, c] X.env = (false, eval b X.env) :: starEach [c] X.env := by rfl) (hs3 : starEach [c] X.env = (false, eval c X.env) :: starEach [] X.env := by rfl) :
    DS X g W tn (.Assign [.Tuple [.Name x px, .Name y py, .Name z pz] kt pt] (.Tuple [a, b, c] k2 pt2) pos) (fPars g [i, j, l] [(ba, fa), (bb, fb), (bc, fc)]) :=
  (ps_par3 hc hN hi hj hl hij hil hjl hx hy hz (dpar_cons ha hta (dpar_cons hb htb (dpar_cons hcc htc dpar_nil hs3) hs2) hs1) hw hs).imp fun Dn σ H h => by
    obtain ⟨G, B, env, r, env', ok, hB, e, kv, kx⟩ := par_rd (is := [i, j, l]) (fs := [(ba, fa), (bb, fb), (bc, fc)]) fit h
    refine ⟨G, B, env, r, env', ok, hB, e, fun rs er vs H' P st nd fr pv => ?_, kx⟩
    have q := kv rs er vs H' P st nd fr pv
    have hl : vs.length = 3 := by
      have : ∀ {bs vs rs ps}, PV X.K g G σ H' env' P bs vs rs ps → vs.length = bs.length := fun h => by
        induction h with
        | nil => rfl
        | val _ _ ih => simp [ih]
        | box _ _ ih => simp [ih]
      simpa using this pv
    match vs, hl with
    | [u, v, w], _ => exact ⟨u, v, w, rfl, q⟩
end
end GR
/-! HC -/
set_option linter.all false
set_option maxRecDepth 100000
/-! repr; == of texts. -/
namespace GR
open PySem L2
variable [TabT]
def gEqA : D → D → Option D
  | .str a, .str b => some (.bl (decide (a = b)))
  | .int a, .int b => some (.bl (decide (a = b)))
  | a, b => gEq a b
def gNeA : D → D → Option D
  | .str a, .str b => some (.bl (!decide (a = b)))
  | .int a, .int b => some (.bl (!decide (a = b)))
  | a, b => gNe a b
def rEqA (K : PySem.W.Frag) : R2 := fun x y H Q => L2.rEq x y H Q ∨ rEqD K false x y H Q
def rNeA (K : PySem.W.Frag) : R2 := fun x y H Q => L2.rNe x y H Q ∨ rEqD K true x y H Q
theorem op_eqA {X : Cx} (hu : X.A.units + 64 < cLine) : OpR X (compareOp .Eq) (rEqA X.K) := op_eq.or (op_eqD hu)
theorem op_neA {X : Cx} (hu : X.A.units + 64 < cLine) : OpR X (compareOp .NotEq) (rNeA X.K) := op_ne.or (op_neD hu)
section
variable {K : PySem.W.Frag}
theorem dec_str {a b : Str} : decide (V.str a = V.str b) = decide (a = b) := by
  by_cases h : a = b
  · subst h; simp
  · simp [h]
theorem dec_int' {a b : Int} : decide (V.int a = V.int b) = decide (a = b) := by
  by_cases h : a = b
  · subst h; simp
  · simp [h]
theorem o2_eqA : Op2 K (rEqA K) true gEqA := fun H R L x y dx dy d Q rx ry hf e k => by
  unfold gEqA at e
  split at e
  · cases e
    obtain rfl := rx.str
    obtain rfl := ry.str
    refine .inl ⟨rfl, ?_⟩
    rw [dec_str]
    exact k _ H (fun _ _ h => h) .bl nv
  · cases e
    obtain rfl := rx.int
    obtain rfl := ry.int
    refine .inl ⟨rfl, ?_⟩
    rw [dec_int']
    exact k _ H (fun _ _ h => h) .bl nv
  · exact .inr (o2_eq H R L x y dx dy d Q rx ry hf e k)
theorem o2_neA : Op2 K (rNeA K) true gNeA := fun H R L x y dx dy d Q rx ry hf e k => by
  unfold gNeA at e
  split at e
  · cases e
    obtain rfl := rx.str
    obtain rfl := ry.str
    refine .inl ⟨rfl, ?_⟩
    rw [dec_str]
    exact k _ H (fun _ _ h => h) .bl nv
  · cases e
    obtain rfl := rx.int
    obtain rfl := ry.int
    refine .inl ⟨rfl, ?_⟩
    rw [dec_int']
    exact k _ H (fun _ _ h => h) .bl nv
  · exact .inr (o2_ne H R L x y dx dy d Q rx ry hf e k)
end
/-! ### repr -/
def isSeqD : D → Bool
  | .lst _ | .tup _ => true
  | _ => false
def gRepr : List D → Option D
  | [d] => if (isSeqD d && d.dat 20 && d.py.showable && decide (d.py.shown.length ≤ 16777216)) = true then some (.str d.py.shown) else none
  | _ => none
def rReprD (K : PySem.W.Frag) : List V → Hp → VK → Prop := fun xs H Q => ∃ (x : V) (R L : Reg) (d : D), xs = [x] ∧ RepB K H R L x d ∧ isSeqD d = true ∧ d.dat 20 = true ∧ d.py.showable = true ∧ d.py.shown.length ≤ sizeLine ∧ Q (.str d.py.shown) H
theorem call_reprD {X : Cx} (hg : X.A.guards = some []) (hu : X.A.units + 64 < cLine) : CallR X (.builtin "repr") (rReprD X.K) := by
  intro pins s σ H xs us Q I r h
  obtain ⟨x, R, L, d, rfl, rx, hs, hd, sh, hl, q⟩ := h
  obtain ⟨u, rfl, ru⟩ := vals1 r
  obtain ⟨as, rd⟩ := reads_of I 20 d rx ru hd
  obtain ⟨lay, dep⟩ := py_lay 20 d hd
  have ref : ∃ a, u = Value.ref a := by
    cases d with
    | lst ds => obtain ⟨p, vs, rfl, _⟩ := rx.lst; exact ⟨p, ru⟩
    | tup ds => obtain ⟨p, vs, rfl, _⟩ := rx.tup; exact ⟨p, ru⟩
    | _ => cases hs
  obtain ⟨a, rfl⟩ := ref
  refine PySem.repr_of_reads' rd sh (PySem.PyData.noDict_hsm (PySem.PyData.hasDict_of_canLay _ lay)) hg (by omega) (fun _ _ e => e) (fun h' u tk hk => ⟨.str d.py.shown, H, I.kept (t' := tk) hk, ⟨u, rfl⟩, q⟩) hl
section
variable {K : PySem.W.Frag}
theorem n_repr : OpN K (rReprD K) true gRepr := fun H R L xs ds d Q r hf e k => by
  unfold gRepr at e
  split at e
  · obtain ⟨x, rfl, rx⟩ := one_arg r rfl
    split at e
    · rename_i h
      simp only [Bool.and_eq_true, decide_eq_true_eq] at h
      cases e
      exact ⟨x, R, L, _, rfl, rx, h.1.1.1, h.1.1.2, h.1.2, by rw [sizeLine_eq]; exact h.2, k _ H (fun _ _ h => h) .str nv⟩
    · cases e
  · cases e
end
end GR
/-! HD -/
set_option linter.all false
set_option maxRecDepth 100000
/-! sorted(x, key=lambda t: t[c]). -/
namespace GR
section
open PySem PySem.W PySem.Spec PyProof.Rows PyProof
/-- the text of the lambda: one plain parameter -/
structure LamTxt (params : Arguments) (scope : Scope) (t : Str) : Prop where
  bind : ∀ (q : Str) (body : Expr) (cl : List (Str × Addr)) (pm cv ctv v : Value), bindArgs (kla_fn "<lambda>" q params body scope cl pm cv ctv) ⟨[v], []⟩ = pure [(t, v)]
  kind : scope.kind = .function
  co : scope.isCoroutine = false
  gen : scope.isGenerator = false
  cell : ∀ x ∈ scope.names, x.2 ≠ .cell
  loc : scope.names.lookup t = some .local
  dbg : (t == ("__debug__" : Str)) = false
theorem lam_key {prog : Program} {w : World} {A : Around} {s : Shared} {f c' a : Addr} {qual t : Str} {params : Arguments} {scope : Scope} {clos : List (Str × Addr)} {pm ctv : Value} {c : Int} {j0 : Nat} {p1 p2 p3 : Pos} {its : Array Value} {j : Nat} {k : Int} {tk : Tok}
    (T : LamTxt params scope t) (hroom : A.depth < recursionLimit) (ho : s.heap.get? f = some (kla_obj "<lambda>" qual params (.Subscript (.Name t p1) (.Constant (.int c) j0 p2) p3) scope clos pm c' ctv)) (hcd : s.heap.CodeRec (.ref c') qual) (lim : s.heap.NoLimit)
    (ht : IsTup s.heap a its) (hlo : -(2 ^ 63) ≤ c) (hhi : c < 2 ^ 63) (hj : seqIndex? c its.size = some j) (hx : its[j]? = some (.int k tk)) :
    wpAny (model prog w) A (call (.ref f) [.ref a]) (KeyPure (.int k) s) (fun _ _ => False) s := by
  refine wpAny_call (kla_callFunE hroom ho rfl T.co T.gen rfl hcd ?_)
  rw [T.bind]
  refine wpAny_pure (wpAny_newFunctionEnv T.cell (fun y hy => by simp only [List.mem_singleton] at hy; subst hy; exact T.loc) (fun h₁ hns hsb => ⟨lim.fresh _ hsb, ?_⟩) T.kind)
  show codeAny _ _ (.expr _ (envX qual scope s.heap.objs.size f (.ref c') clos)) _ _
  have kp : ∀ b o, s.heap.get? b = some o → h₁.get? b = some o := fun b o e => hsb.extBut b o (Nat.ne_of_lt (Heap.lt_size e)) (Heap.get?_push_of_some _ e)
  have ht₁ : IsTup h₁ a its := by
    obtain ⟨o, h1, h2⟩ := ht
    exact ⟨o, kp _ _ h1, h2⟩
  refine kla_codeExpr (Subscript_Constant (wpAny_Name (wpAny_loadName_local (v := .ref a) T.kind T.loc hns (by simp [List.lookup]) (wpAny_Constant_int ⟨"tuple", _, slot_tuple_getitem.lookup, ht₁.typeIs, getItem_tuple (j := j) ht₁ hlo hhi hj hx ?_⟩)) T.dbg))
  exact ⟨h₁, _, rfl, kp, .int _ _⟩
end
section
open PySem L2 PySem.Spec PyProof.Rows
variable {X : Cx} {pins : List (Addr × Obj)} {σ : L2.St} {H : Hp} {s : Shared}
/-- as LamX.lam_make2, and it is told that the tables only grow -/
theorem lam_make3 {T : List (Addr × Str)} {cd P : Addr} {ar : Arguments} {bd : Expr} {sc : Scope} {ps0 : Pos} {E : Value → Shared → Prop} {Q : Value → Shared → Prop} (I : Inv X pins σ H s) (TB : LamX.TabB X.base X.mg cd P) (hcd : X.env.code = .ref cd)
    (mT : (P, X.env.qual ++ "<lambda>") ∈ T) (oneT : ∀ y ∈ T, y.1 = P → y.2 = X.env.qual ++ "<lambda>") (tabs : LamX.Tabs T H) (nodef : defaultsOf ar X.env = ([], [])) (nofree : ∀ y ∈ sc.names, y.2 ≠ .free)
    (go : ∀ (f cN : Addr) (pm ctv : Value) (H1 : Hp) (s1 : Shared), Inv X pins σ H1 s1 → (∀ b o, H b = some o → ∃ o', H1 b = some o' ∧ Up o o') → LamX.Tabs T H1 →
      s1.heap.get? f = some (PySem.W.kla_obj "<lambda>" (X.env.qual ++ "<lambda>") ar bd sc (cloFrom X.env.cells sc.names []) pm cN ctv) → H1 cN = some (LamX.CodeO cN (X.env.qual ++ "<lambda>")) → Q (.ref f) s1) :
    wpAny (model X.prog X.w) X.A (eval (.Lambda ar bd sc ps0) X.env) Q E s := by
  have tb0 := tabs
  obtain ⟨arr, atP, okT, inT⟩ := tb0 _ mT
  have clo := closure_ok (env := X.env) (scope := sc) (fun y hy e => absurd e (nofree y hy))
  refine PySem.W.kla_eval nodef ?_
  have gP : s.heap.get? P = some { cls := .none, data := .fields arr } := I.hok P _ atP
  have bP : s.heap.BuiltinsAt X.mg P := TB.bm.keeps I.bk
  cases found : codeAmong ps0 arr.toList with
  | some cv =>
    obtain ⟨cN, ecv, isC⟩ := inT ps0 cv found
    subst ecv
    refine PySem.W.kla_makeFunctionHit (mg := X.mg) (c := cd) (P := P) (ps := arr) clo I.ok.glob (I.mod.glob.keeps I.bk) hcd (TB.code.keeps I.bk) gP okT found bP fun ctv hN tk keep big => ?_
    exact go hN.objs.size cN ((X.mg "__name__").getD .none) ctv H _ (I.kept (t' := tk) fun b o e => Heap.get?_push_of_some _ (keep b o e)) (fun b o e => ⟨o, e, .refl o⟩) tabs (Heap.get?_push_size _ rfl) isC
  | none =>
    refine PySem.W.kla_makeFunction (mg := X.mg) (c := cd) (P := P) (ps := arr) clo I.ok.glob (I.mod.glob.keeps I.bk) hcd (TB.code.keeps I.bk) gP okT found TB.gP bP fun cV ctv hN tk keep big small rec tabN => ?_
    obtain ⟨cN, oc, vs, tq, e2, hoc, hdc, hvc⟩ := rec
    cases e2
    have newC : H cV = none := I.hok.fresh big
    have neP : P ≠ cV := fun z => by rw [z, newC] at atP; cases atP
    have J := LamX.inv_table (q := X.env.qual ++ "<lambda>") (t' := tk) (more := #[rawInt ps0.line, rawInt ps0.col, .ref cV])
      (h' := hN.push (PySem.W.kla_obj "<lambda>" (X.env.qual ++ "<lambda>") ar bd sc (cloFrom X.env.cells sc.names []) ((X.mg "__name__").getD .none) cV ctv)) I atP
      (fun b o nb e => Heap.get?_push_of_some _ (keep b o nb e)) (Heap.get?_push_of_some _ tabN) big ⟨oc, vs, tq, Heap.get?_push_of_some _ hoc, hdc, hvc⟩
    have up : ∀ b o, H b = some o → ∃ o', upd (upd H P (.tbl (arr ++ #[rawInt ps0.line, rawInt ps0.col, .ref cV]))) cV (LamX.CodeO cV (X.env.qual ++ "<lambda>")) b = some o' ∧ Up o o' := fun b o e => by
      have n1 : b ≠ cV := fun z => by rw [z, newC] at e; cases e
      rw [upd_ne n1]
      by_cases z : b = P
      · subst z
        rw [atP] at e; cases e
        exact ⟨_, upd_same, .inr ⟨_, _, rfl, rfl⟩⟩
      · rw [upd_ne z]; exact ⟨o, e, .refl o⟩
    have stays : ∀ b o, H b = some o → (∀ ps, o ≠ .tbl ps) → upd (upd H P (.tbl (arr ++ #[rawInt ps0.line, rawInt ps0.col, .ref cV]))) cV (LamX.CodeO cV (X.env.qual ++ "<lambda>")) b = some o := fun b o e n => by
      obtain ⟨o', h1, u⟩ := up b o e
      rw [h1, u.eq n]
    have tl : (arr ++ #[rawInt ps0.line, rawInt ps0.col, .ref cV]).toList = arr.toList ++ [rawInt ps0.line, rawInt ps0.col, .ref cV] := by simp
    refine go hN.objs.size cV ((X.mg "__name__").getD .none) ctv _ _ J up (fun y hy => ?_) (Heap.get?_push_size _ rfl) upd_same
    by_cases z : y.1 = P
    · rw [oneT y hy z, z]
      refine ⟨_, (upd_ne neP).trans upd_same, ?_, fun pq cv hcv => ?_⟩
      · rw [tl]; exact PySem.TriplesOk_snoc _ _ _ _ okT
      · rw [tl] at hcv
        rcases LamX.among_app _ okT hcv with w | w
        · obtain ⟨c0, a1, a2⟩ := inT pq cv w
          exact ⟨c0, a1, stays _ _ a2 LamX.codeO_ne⟩
        · exact ⟨cV, w, upd_same⟩
    · obtain ⟨ar2, a1, a2, a3⟩ := tabs y hy
      refine ⟨ar2, ?_, a2, fun pq cv hcv => ?_⟩
      · rw [upd_ne (fun q => by rw [q, newC] at a1; cases a1), upd_ne z]; exact a1
      · obtain ⟨c0, b1, b2⟩ := a3 pq cv hcv
        exact ⟨c0, b1, stays _ _ b2 LamX.codeO_ne⟩
end
section
open PySem L2
/-- what sorted(xs, key=lambda t: t[c]) gives: bs the items with their keys -/
def bSortKey (K : PySem.W.Frag) (T : List (Addr × Str)) (c : Int) (Q : VK) (x : V) (H1 : Hp) : Prop := ∃ a, ∃ bs : List (V × Int), x = .ref a ∧ SqL K H1 a (bs.map Prod.fst) ∧ (∀ b ∈ bs, ∃ p ys, b.1 = .ref p ∧ SqT K H1 p ys ∧ atI ys c = some (.int b.2)) ∧ LamX.Tabs T H1 ∧
  ∀ H2, (∀ b o, H1 b = some o → ∃ o', H2 b = some o' ∧ Up o o') → LamX.Tabs T H2 → ∀ p, H2 p = none → Q (.ref p) (upd H2 p (.lst ((bs.mergeSort fun a b => decide (a.2 ≤ b.2)).map Prod.fst)))
def tSortKey (K : PySem.W.Frag) (T : List (Addr × Str)) (c : Int) (te : TE) : TE := fun σ H Q => te σ H (bSortKey K T c Q)
theorem ext_t {K : PySem.W.Frag} {H1 H2 : Hp} {a : Addr} {xs : List V} (e : ∀ b o, H1 b = some o → ∃ o', H2 b = some o' ∧ Up o o') (h : SqT K H1 a xs) : SqT K H2 a xs := by
  have st : ∀ o, (∀ ps, o ≠ .tbl ps) → H1 a = some o → H2 a = some o := fun o n h => by
    obtain ⟨o', h1, u⟩ := e a o h
    rw [h1, u.eq n]
  rcases h with (h | ⟨o, h⟩) | h
  · exact .inl (.inl (st _ (fun _ z => nomatch z) h))
  · exact .inl (.inr ⟨o, st _ (fun _ z => nomatch z) h⟩)
  · exact .inr h
theorem ext_l {K : PySem.W.Frag} {H1 H2 : Hp} {a : Addr} {xs : List V} (e : ∀ b o, H1 b = some o → ∃ o', H2 b = some o' ∧ Up o o') (h : SqL K H1 a xs) : SqL K H2 a xs := by
  have st : ∀ o, (∀ ps, o ≠ .tbl ps) → H1 a = some o → H2 a = some o := fun o n h => by
    obtain ⟨o', h1, u⟩ := e a o h
    rw [h1, u.eq n]
  rcases h with (h | ⟨o, h⟩) | h
  · exact .inl (.inl (st _ (fun _ z => nomatch z) h))
  · exact .inl (.inr ⟨o, st _ (fun _ z => nomatch z) h⟩)
  · exact .inr h
theorem each_of {us : List Value} : ∀ {bs : List (V × Int)}, Vals (bs.map Prod.fst) us → PySem.W.EachIs (fun u (b : V × Int) => RelV b.1 u) us bs := by
  intro bs
  induction bs generalizing us with
  | nil => intro r; cases r; exact .nil
  | cons b bs ih => intro r; cases r with
    | cons h t => exact .cons h (ih t)
theorem each_mem {S : List (V × Int)} : ∀ {us : List Value} {bs : List (V × Int)}, PySem.W.EachIs (fun u (b : V × Int) => RelV b.1 u) us bs → (∀ b ∈ bs, b ∈ S) → PySem.W.EachIs (fun u (b : V × Int) => RelV b.1 u ∧ b ∈ S) us bs
  | _, _, .nil, _ => .nil
  | _, _, .cons h t, m => .cons ⟨h, m _ List.mem_cons_self⟩ (each_mem t fun b hb => m b (List.mem_cons_of_mem _ hb))
theorem vals_of_each : ∀ {us : List Value} {bs : List (V × Int)}, PySem.W.EachIs (fun u (b : V × Int) => RelV b.1 u) us bs → Vals (bs.map Prod.fst) us
  | _, _, .nil => .nil
  | _, _, .cons h t => .cons h (vals_of_each t)
theorem pe_sortKey {X : Cx} {k : Nat} {T : List (Addr × Str)} {cd P : Addr} {e : Expr} {te : TE} {params : Arguments} {scope : Scope} {t : Str} {c : Int} {j0 : Nat} {p pos p1 p2 p3 lpos kpos : Pos} (hg : Gl X "sorted") (hm : X.mg "sorted" = none) (hr : RoomG (k + 3) X.A)
    (TB : LamX.TabB X.base X.mg cd P) (hcode : X.env.code = .ref cd) (hmT : (P, X.env.qual ++ "<lambda>") ∈ T) (hu : ∀ p ∈ T, p.1 = P → p.2 = X.env.qual ++ "<lambda>") (hdef : defaultsOf params X.env = ([], [])) (hfree : ∀ y ∈ scope.names, y.2 ≠ .free) (L : LamTxt params scope t) (hc : -(2 ^ 63) ≤ c ∧ c < 2 ^ 63)
    (he : PE X e te) (he1 : backTo pos (starEach [e] X.env) = (false, eval e X.env) :: backTo pos (starEach [] X.env) := by rfl) (hpl : (backTo pos (starEach [e] X.env)).any (·.1) = false := by rfl) :
    PE X (.Call (.Name "sorted" p) [e] [⟨some (Str.ofString "key"), .Lambda params (.Subscript (.Name t p1) (.Constant (.int c) j0 p2) p3) scope lpos, kpos⟩] pos) (tSortKey X.K T c te) := by
  refine ⟨fun pins s σ H Q I h => ?_⟩
  refine wpAny_Call_Name_kw (ld_blt I hg hm rfl ?_ (by decide) (by decide))
  refine PyProof.Rows.callWith_kw ?_ he1 hpl
  rw [he1]
  refine Calls.spliced_cons (thn (he.run pins s σ H _ I h) fun u s1 ⟨y, H1, I1, ru, a, bs, ea, hl, hb, hT, q⟩ => Calls.spliced_nil ?_)
  subst ea
  obtain rfl : u = Value.ref a := ru
  show wpAny _ _ (evalAll ((do let v ← eval (.Lambda params (.Subscript (.Name t p1) (.Constant (.int c) j0 p2) p3) scope lpos) X.env; standAt pos; pure v) :: (backToKw pos (keywordEach [] X.env)).map (·.2))) _ _ s1
  refine wpAny_evalAll_cons (wpAny_bind (lam_make3 I1 TB hcode hmT hu hT hdef hfree fun f c' pm ctv H2 s2 I2 eN T2 hf hco => wpAny_bind (wpAny_standAt (wpAny_pure ?_))))
  refine wpAny_evalAll_nil ?_
  show wpAny _ _ (call (.builtin "sorted") [.ref a] [(Str.ofString "key", .ref f)]) _ _ s2
  have hl2 := ext_l eN hl
  obtain ⟨its, rv, hli, hz⟩ := I2.list hl2
  have un := hr.room.un
  obtain ⟨⟨oc, vs, tq, hoc, hdc, hvc⟩, _, _⟩ := I2.hok c' _ hco
  have es : PySem.W.EachIs (fun u (b : V × Int) => RelV b.1 u ∧ b ∈ bs) its bs := each_mem (each_of rv) fun _ h => h
  refine PySem.W.sorted_key_data (b := false) (fun b : V × Int => .int b.2) hli.isList es (PySem.W.AllAlike.of fun _ _ => by simp [PySem.W.alike]) (.inr fun d hd => ?_) (by rw [← List.length_map (f := Prod.fst)]; exact hz) (fun b _ => ?_) (PyProof.Rows.ksk_s1 _ _) (fun _ => PyProof.Rows.ksk_l1 _ _) (fun _ => PyProof.Rows.ksk_t1 _ _)
    (fun v b ⟨rb, hmb⟩ _ h tk kp => ?_) fun out cc h' tk kp fr hD hlen eo => ?_
  · obtain ⟨b, _, rfl⟩ := List.mem_map.mp hd
    exact ⟨(fun z => by cases z), (fun xs z => by cases z)⟩
  · show X.A.units + 2 + PyData.depth (.int b.2) < cLine
    simp only [PyData.depth]
    omega
  · obtain ⟨p, ys, ep, sq, at_⟩ := hb b hmb
    rw [ep] at rb
    obtain rfl : v = Value.ref p := rb
    obtain ⟨its2, r2, pl, hz2⟩ := I2.tuple (ext_t eN sq)
    obtain ⟨j, h1, h2, _⟩ := atI_get at_
    obtain ⟨w2, ew, rw2⟩ := r2.get h2
    obtain ⟨tk2, rfl⟩ := rw2
    obtain ⟨o2, g1, g2⟩ := pl
    refine lam_key (s := { s2 with heap := h, toks := tk }) (its := its2.toArray) (j := j) (tk := tk2) L ?_ (kp _ _ hf) ⟨c', oc, vs, tq, rfl, kp _ _ hoc, hdc, hvc⟩ (I2.nolimit.keeps kp) ⟨o2, kp _ _ g1, g2⟩ hc.1 hc.2 ?_ ?_
    · have := hr.in1.in1.room.dp
      omega
    · rw [List.size_toArray, ← r2.length]; exact h1
    · simpa using ew
  · rw [PySem.W.dataLe_int (β := V × Int) fun b => b.2] at eo
    have ev : Vals ((bs.mergeSort fun a b => decide (a.2 ≤ b.2)).map Prod.fst) out := vals_of_each (eo.mono fun _ _ z => z.1)
    have nz : H2 (s2.heap.objs.size + 1) = none := I2.hok.fresh (Nat.le_succ _)
    have hlen2 : ((bs.mergeSort fun a b => decide (a.2 ≤ b.2)).map Prod.fst).length ≤ sizeLine := by
      rw [List.length_map, (List.mergeSort_perm _ _).length_eq, ← List.length_map (f := Prod.fst)]
      exact hz
    exact ⟨.ref (s2.heap.objs.size + 1), upd H2 (s2.heap.objs.size + 1) (.lst ((bs.mergeSort fun a b => decide (a.2 ≤ b.2)).map Prod.fst)), I2.laid (t' := tk) kp (Nat.le_succ _) (show ObjOk X.prog X.w _ _ _ (.lst ((bs.mergeSort fun a b => decide (a.2 ≤ b.2)).map Prod.fst)) from ⟨hlen2, out, cc, ev, hD⟩), rfl, q H2 eN T2 _ nz⟩
end
end GR
/-! HE -/
set_option linter.all false
set_option maxRecDepth 100000
/-! sorted by a key, on data. -/
namespace GR
open PySem L2
variable [TabT]
def keyI (c : Int) : D → Option Int
  | .tup ds => match atI ds c with
    | some (.int i) => some i
    | _ => none
  | _ => none
def keyZ (c : Int) (d : D) : Int := (keyI c d).getD 0
def gSortKey (c : Int) : D → Option D
  | .lst ds => if (ds.all fun d => (keyI c d).isSome) = true then some (.lst (ds.mergeSort fun a b => decide (keyZ c a ≤ keyZ c b))) else none
  | _ => none
section
variable {K : PySem.W.Frag} {H : Hp} {R : Reg}
theorem reps_zip : ∀ {vs : List V} {ds : List D}, Reps K H R vs ds → ∃ cs : List (V × D), cs.map Prod.fst = vs ∧ cs.map Prod.snd = ds ∧ ∀ c ∈ cs, Rep K H R c.1 c.2
  | _, _, .nil => ⟨[], rfl, rfl, fun c h => nomatch h⟩
  | _, _, .cons (v := v) (d := d) r rs => by
    obtain ⟨cs, h1, h2, h3⟩ := reps_zip rs
    refine ⟨(v, d) :: cs, by simp [h1], by simp [h2], fun c hc => ?_⟩
    rcases List.mem_cons.mp hc with rfl | hc
    · exact r
    · exact h3 c hc
theorem reps_unzip : ∀ {cs : List (V × D)}, (∀ c ∈ cs, Rep K H R c.1 c.2) → Reps K H R (cs.map Prod.fst) (cs.map Prod.snd)
  | [], _ => .nil
  | c :: cs, h => .cons (h c List.mem_cons_self) (reps_unzip fun c hc => h c (List.mem_cons_of_mem _ hc))
end
section
variable {X : Cx} {g : Cfg} {W : WX} {tn ta : Bool} {e : Expr} {fe : EF} {k : Nat} {cd P : Addr} {params : Arguments} {scope : Scope} {t : Str} {j0 : Nat} {p pos p1 p2 p3 lpos kpos : Pos}
def fSortKey (c : Int) (fe : EF) : EF := fOp1 (gSortKey c) fe
theorem de_sortKey (c : Int) (hg : Gl X "sorted") (hm : X.mg "sorted" = none) (hr : RoomG (k + 3) X.A) (TB : LamX.TabB X.base X.mg cd P) (hcode : X.env.code = .ref cd) (hmT : (P, X.env.qual ++ "<lambda>") ∈ TabT.T) (hu : ∀ p ∈ TabT.T, p.1 = P → p.2 = X.env.qual ++ "<lambda>")
    (L : LamTxt params scope t) (he : DE X g W ta e fe) (hdef : defaultsOf params X.env = ([], []) := by rfl) (hfree : ∀ y ∈ scope.names, y.2 ≠ .free := by decide) (hc : -(2 ^ 63) ≤ c ∧ c < 2 ^ 63 := by decide)
    (he1 : backTo pos (starEach [e] X.env) = (false, eval e X.env) :: backTo pos (starEach [] X.env) := by rfl) (hpl : (backTo pos (starEach [e] X.env)).any (·.1) = false := by rfl) :
    DE X g W true (.Call (.Name "sorted" p) [e] [⟨some (Str.ofString "key"), .Lambda params (.Subscript (.Name t p1) (.Constant (.int c) j0 p2) p3) scope lpos, kpos⟩] pos) (fSortKey c fe) := (pe_sortKey hg hm hr TB hcode hmT hu hdef hfree L hc he he1 hpl).imp fun σ H Q h => by
  obtain ⟨G, B, env, r, env', ok, ee, kk, x⟩ := h.out
  unfold fSortKey fOp1 at ee
  show DEr X.K g W ta fe σ H _
  refine bind1_use (tn' := ta) ok ee (fun C d e1 ea eo a H' s ha => ?_) (by simp) (fun r1 e1 v H1 ea nx ek s l t => ?_)
  · cases eo; exact x _ _ rfl a H' s ha
  · cases e2 : res r1 e1 with
    | none => simp [e2] at ek
    | some dx =>
      simp only [e2] at ek
      cases e3 : gSortKey c dx with
      | none => simp [e3] at ek
      | some d =>
        simp only [e3] at ek
        cases ek
        unfold gSortKey at e3
        split at e3
        · rename_i ds
          split at e3
          · rename_i hall
            cases e3
            obtain ⟨q, vs, rfl, hq, rr⟩ := (l.res s.ok e2).lst
            obtain ⟨cs, h1, h2, h3⟩ := reps_zip rr
            subst h1; subst h2
            have hkey : ∀ c0 ∈ cs, keyI c c0.2 = some (keyZ c c0.2) := fun c0 hc0 => by
              have := List.all_eq_true.mp hall c0.2 (List.mem_map_of_mem hc0)
              unfold keyZ
              cases q : keyI c c0.2 with
              | none => rw [q] at this; cases this
              | some i => rfl
            have ms : ((cs.map fun c0 => (c0.1, keyZ c c0.2)).mergeSort fun a b => decide (a.2 ≤ b.2)) = (cs.mergeSort fun a b => decide (keyZ c a.2 ≤ keyZ c b.2)).map fun c0 => (c0.1, keyZ c c0.2) :=
              (List.map_mergeSort (r := fun a b : V × D => decide (keyZ c a.2 ≤ keyZ c b.2)) (s := fun a b : V × Int => decide (a.2 ≤ b.2)) (f := fun c0 : V × D => (c0.1, keyZ c c0.2)) (fun _ _ _ _ => rfl)).symm
            have ms2 : ((cs.map Prod.snd).mergeSort fun a b => decide (keyZ c a ≤ keyZ c b)) = (cs.mergeSort fun a b => decide (keyZ c a.2 ≤ keyZ c b.2)).map Prod.snd :=
              (List.map_mergeSort (r := fun a b : V × D => decide (keyZ c a.2 ≤ keyZ c b.2)) (s := fun a b : D => decide (keyZ c a ≤ keyZ c b)) (f := Prod.snd) (fun _ _ _ _ => rfl)).symm
            refine ⟨q, cs.map fun c0 => (c0.1, keyZ c c0.2), rfl, ?_, ?_, s.ok.tab, fun H2 up T2 np hnp => ?_⟩
            · rw [List.map_map]; exact SqL.of hq
            · intro b hb
              obtain ⟨c0, hc0, rfl⟩ := List.mem_map.mp hb
              have r0 := h3 c0 hc0
              have k0 := hkey c0 hc0
              unfold keyI at k0
              split at k0
              · rename_i ds0 e0
                rw [e0] at r0
                obtain ⟨tp, ys, ev, sq, rs⟩ := (RepB.of r0 : RepB X.K H1 _ (fun _ => False) c0.1 (.tup ds0)).tup
                split at k0
                · rename_i i hi
                  obtain ⟨v0, hv0, rv0⟩ := reps_at rs hi
                  cases rv0
                  cases k0
                  refine ⟨tp, ys, ev, sq, ?_⟩
                  rename_i hz
                  show atI ys c = some (.int (keyZ c c0.2))
                  rw [hv0]
                · cases k0
              · cases k0
            · rw [ms, List.map_map]
              have s2 := s.growU up T2
              have s3 : Stp X.K g G B σ H env (upd H2 np (.lst ((cs.mergeSort fun a b => decide (keyZ c a.2 ≤ keyZ c b.2)).map Prod.fst))) env' := s2.grow (upd_same_of hnp)
              have r3 : Reps X.K H2 (Zr G g env' σ) ((cs.mergeSort fun a b => decide (keyZ c a.2 ≤ keyZ c b.2)).map Prod.fst) ((cs.mergeSort fun a b => decide (keyZ c a.2 ≤ keyZ c b.2)).map Prod.snd) :=
                (reps_unzip fun c0 hc0 => h3 c0 ((List.mergeSort_perm _ _).mem_iff.mp hc0)).fr (fr_up up)
              refine kk _ _ s3 (by rw [ms2]; exact Rep.newLst hnp (s2.ok.fresh hnp) r3) fun d hd _ => ?_
              refine (NewV.upd hnp (fun q u z => by cases z) : NewV H2 (upd H2 np (.lst ((cs.mergeSort fun a b => decide (keyZ c a.2 ≤ keyZ c b.2)).map Prod.fst))) (.ref np)).back s2.dom
          · cases e3
        · cases e3
end
end GR
/-! HF -/
set_option linter.all false
set_option maxRecDepth 100000
/-! {1: 2, ..} of whole numbers; tuples of the module; get. -/
namespace GR
open PySem L2
variable [TabT]
def dispD (kvs : List (Int × Int)) : List (Key × D) := kvs.foldl (fun acc kv => putD acc (.inl kv.1) (.int kv.2)) []
section
variable {K : PySem.W.Frag} {H : Hp} {R : Reg}
theorem merge_rel : ∀ (kvs : List (Int × Int)) {a : List (Key × V)} {b : List (Key × D)}, a.map Prod.fst = b.map Prod.fst → Reps K H R (a.map Prod.snd) (b.map Prod.snd) →
    (mergeK a (kvs.map fun kv => (.inl kv.1, V.int kv.2))).map Prod.fst = (kvs.foldl (fun acc kv => putD acc (.inl kv.1) (.int kv.2)) b).map Prod.fst ∧ Reps K H R ((mergeK a (kvs.map fun kv => (.inl kv.1, V.int kv.2))).map Prod.snd) ((kvs.foldl (fun acc kv => putD acc (.inl kv.1) (.int kv.2)) b).map Prod.snd)
  | [], _, _, e, r => ⟨e, r⟩
  | kv :: kvs, a, b, e, r => by
    obtain ⟨k1, k2⟩ := putK_rel e r (.inl kv.1) (v := .int kv.2) (d := .int kv.2) .int
    exact merge_rel kvs k1 k2
theorem pairs_const {σ : L2.St} {H : Hp} : ∀ (kvs : List (Int × Int)) {Q : List (V × V) → Hp → Prop}, Q (kvs.map fun kv => (V.int kv.1, V.int kv.2)) H → tPairs (kvs.map fun kv => (tC (.int kv.1), tC (.int kv.2))) σ H Q
  | [], _, q => q
  | kv :: kvs, Q, q => pairs_const (Q := fun ps H3 => Q ((V.int kv.1, V.int kv.2) :: ps) H3) kvs q
end
section
variable {X : Cx} {g : Cfg} {W : WX} {pos : Pos} {keys : List (Option Expr)} {values : List Expr}
theorem de_disp (kvs : List (Int × Int)) (h : PPs X pos keys values (kvs.map fun kv => (tC (.int kv.1), tC (.int kv.2)))) (hall : keys.all (·.isSome) = true := by rfl) (hl : keys.length = values.length := by rfl) (h0 : keys ≠ [] := by exact fun z => nomatch z) (h15 : keys.length ≤ 15 := by decide) (hk : kvs.length ≤ 15 := by decide) :
    DE X g W true (.Dict keys values pos) (fC (.dK (dispD kvs))) := (pe_disp h hall hl h0 h15).imp fun σ H Q h => by
  obtain ⟨G, B, env, r, env', ok, ee, k, x⟩ := h.out
  cases ee
  intro p hp
  refine pairs_const kvs ⟨upd_same, kvs.map (fun kv => (.inl kv.1, V.int kv.2)), by rw [List.map_map]; rfl, by rw [List.length_map]; exact hk, ?_⟩
  have e2 : ∀ o', upd (upd H p (.dK [])) p o' = upd H p o' := fun o' => by
    funext a
    by_cases q : a = p
    · subst q; rw [upd_same, upd_same]
    · rw [upd_ne q, upd_ne q, upd_ne q]
  rw [e2]
  obtain ⟨k1, k2⟩ := merge_rel (K := X.K) (H := H) (R := Zr G g env σ) kvs (a := []) (b := []) rfl .nil
  exact k (.ref p) (upd H p (.dK (mergeK [] (kvs.map fun kv => (.inl kv.1, V.int kv.2))))) ((Stp.refl ok).grow (upd_same_of hp)) (Rep.newDK hp (ok.fresh hp) k1 k2) fun _ _ _ => NewV.upd hp fun q u z => by cases z
end
end GR
/-! HG -/
set_option linter.all false
set_option maxRecDepth 100000
set_option maxHeartbeats 2000000
/-! The end of a law's row, for promises that hold while nothing is being shown. -/
namespace GR
section
open PySem PySem.Spec PyProof.Rows L2
/-- what is tracked when the law is called: the tables, and the script unless it is the text's own -/
structure LawHp (P : Program) (w : World) (K : PySem.W.Frag) (h : Heap) (cs : List (Addr × Addr)) (a : Addr) (ns : List Int) (H : Hp) : Prop where
  tb : ∀ p ∈ cs, H p.2 = some (.tbl #[])
  kind : ∀ b u, H b = some u → ((∃ p ∈ cs, p.2 = b) ∧ u = .tbl #[]) ∨ (b = a ∧ K.lookup a = none ∧ ∃ ob, u = .frz ob (.lst (ns.map V.int)))
  sq : SqL K H a (ns.map V.int)
  ok : HOk P w H h
theorem law_run {P : Program} {w : World} {K : PySem.W.Frag} {mg mb : Str → Option Value} {CX : CXT} {k : Nat} {fa a : Addr} {cs : List (Addr × Addr)} {fd : FuncData} {x : Str} {sp : Sp} {s₁ : Shared} {us : List Value} {ns : List Int} {H : Hp}
    (L : LawHp P w K s₁.heap cs a ns H) (inK : K.In s₁.heap) (gNs : s₁.heap.Ns mainGlobals mg) (bNs : s₁.heap.Ns builtinsNs mb) (boot : ∀ x : Str, x ≠ "__name__" → mb x = bootBuiltins x) (lim : s₁.heap.NoLimit) (noG : s₁.gens = #[])
    (gT : ∀ p ∈ cs, s₁.heap.get? p.2 = some { cls := .none, data := .fields #[] }) (kT : ∀ p ∈ cs, K.lookup p.2 = none) (hd : ∀ p ∈ cs, PySem.W.CodeHd s₁.heap p.1 p.2)
    (bmod : ∃ (bm : Addr) (ob : Obj), mg "__builtins__" = some (.ref bm) ∧ bm ≠ builtinsNs ∧ s₁.heap.get? bm = some ob ∧ ob.cls = .type "module" ∧ ob.dict = some builtinsNs ∧ ob.data = .plain)
    (gA : s₁.heap.get? a = some { cls := .type "list", data := .seq us.toArray }) (room : RoomG k callerA)
    (F : ∀ base : Heap, K.In base → base.Ns mainGlobals mg → (∀ p ∈ cs, LamX.TabB base mg p.1 p.2) → FnG P w K mg base CX k fa fd [x] sp) (bind : ∀ (s : Shared) (u : Value), BindsTo s fd ⟨[u], []⟩ [(x, u)])
    (hsp : sp [.ref a] H (fun v _ => v = .bl true) fun _ _ _ => False) (noX : ∀ H e s', CX [] H s₁ (fun _ _ _ => False) e s' → False) :
    codeAny (model P w) callerA (.call (.ref fa) ⟨[.ref a], []⟩) (fun r s' => r = .ok (.ret (.bool true)) ∧ OldK s₁.heap s'.heap ∧ s'.os = s₁.os ∧ AllBare s'.gens) s₁ := by
  -- an object that is neither a sequence nor an empty record is not tracked
  have free : ∀ {b : Addr} {o : Obj}, s₁.heap.get? b = some o → (∀ vs n, o.data ≠ .seq vs n) → o.data ≠ .fields #[] → H b = none := fun {b o} e n1 n2 => by
    cases q : H b with
    | none => rfl
    | some u =>
      exfalso
      rcases L.kind b u q with ⟨⟨p, hp, rfl⟩, _⟩ | ⟨rfl, _⟩
      · rw [gT p hp] at e; cases e; exact n2 rfl
      · rw [gA] at e; cases e; exact n1 _ _ rfl
  have inB : ∀ {b : Addr} {o : Obj}, s₁.heap.get? b = some o → (∀ vs n, o.data ≠ .seq vs n) → o.data ≠ .fields #[] → (hidT s₁.heap H).get? b = some o := fun e n1 n2 => hidT_get e (free e n1 n2)
  have nsB : ∀ {b : Addr} {m : Str → Option Value}, s₁.heap.Ns b m → (hidT s₁.heap H).Ns b m := fun {b m} ⟨o, es, ep, e, d, r⟩ =>
    ⟨o, es, ep, inB e (fun vs n z => by rw [d] at z; cases z) (fun z => by rw [d] at z; cases z), d, r⟩
  have inK2 : K.In (hidT s₁.heap H) := fun b o e => hidT_get (inK b o e) (by
    cases q : H b with
    | none => rfl
    | some u =>
      exfalso
      rcases L.kind b u q with ⟨⟨p, hp, rfl⟩, _⟩ | ⟨rfl, z, _⟩
      · rw [kT p hp] at e; cases e
      · rw [z] at e; cases e)
  have tabs : ∀ p ∈ cs, LamX.TabB (hidT s₁.heap H) mg p.1 p.2 := fun p hp => by
    have gp := gT p hp
    refine ⟨?_, ?_, fun z => ?_⟩
    · obtain ⟨o, vs, file, tf, flags, tg, inF, text, tt, e1, r1, r2, r3, rest⟩ := hd p hp
      exact ⟨o, vs, file, tf, flags, tg, inF, text, tt, inB e1 (fun ws n z => by rw [r2] at z; cases z) (fun z => by rw [r2] at z; cases z; simp at r3), r1, r2, r3, rest⟩
    · obtain ⟨bm, ob, b1, b2, b3, b4, b5, b6⟩ := bmod
      have ng : bm ≠ mainGlobals := by
        rintro rfl
        obtain ⟨o, es, ep, e, d, _⟩ := gNs
        rw [e] at b3; cases b3
        rw [d] at b6; cases b6
      have np : bm ≠ p.2 := by
        rintro rfl
        rw [gp] at b3; cases b3; cases b6
      exact ⟨bm, ob, b1, b2, ng, np, inB b3 (fun ws n z => by rw [b6] at z; cases z) (fun z => by rw [b6] at z; cases z), b4, b5, b6⟩
    · obtain ⟨o, es, ep, e, d, _⟩ := gNs
      rw [z, gp] at e; cases e; cases d
  have e0 : Env0 P w K mg (hidT s₁.heap H) callerA [] s₁ H :=
    ⟨rfl, ⟨inK2, nsB gNs, ⟨mb, nsB bNs, boot⟩, by obtain ⟨mc, h1, h2⟩ := lim; exact ⟨mc, nsB h1, h2⟩⟩, fun b o e => of_hidT e, Nat.le_of_eq (hidT_size _ _), trivial, fun b hb => absurd (show b ∈ ([] : List Addr) from hb) (by simp), L.ok, .of_eq noG⟩
  have ran := (F _ inK2 (nsB gNs) tabs).run callerA [] s₁ H ⟨[.ref a], []⟩ [.ref a] [.ref a] _ _ room e0 (bind s₁ (.ref a)) (.cons (show RelV (.ref a) (.ref a) from rfl) .nil) hsp
  refine codeAny_mono ran fun r s' h => ?_
  match r, h with
  | .error e, h => exact (noX H e s' h).elim
  | .ok .next, h => exact h.elim
  | .ok .brk, h => exact h.elim
  | .ok .cont, h => exact h.elim
  | .ok (.ret u), ⟨v, H', os, bare, un, ok', rv, q⟩ =>
    have q : v = .bl true := q
    subst q
    obtain rfl : u = Value.bool true := rv
    have old : ∀ b o, (∀ p ∈ cs, p.2 ≠ b) → s₁.heap.get? b = some o → s'.heap.get? b = some o := fun b o nb e => by
      cases z : H b with
      | none => exact un.keep b o e z (fun m => absurd (show b ∈ ([] : List Addr) from m) (by simp)) (by simp)
      | some t =>
        rcases L.kind b t z with ⟨⟨p, hp, eq⟩, _⟩ | ⟨_, _, ob, rfl⟩
        · exact absurd eq (nb p hp)
        · obtain ⟨e1, _⟩ := L.ok b _ z
          obtain ⟨e2, _⟩ := ok' b _ (un.frzs b ob _ z)
          rw [e] at e1; cases e1
          exact e2
    have grew : ∀ p ∈ cs, ∃ more : Array Value, s'.heap.get? p.2 = some { cls := .none, data := .fields more } := fun p hp => by
      obtain ⟨more, z⟩ := un.tbls p.2 #[] (L.tb p hp)
      exact ⟨_, ok' p.2 _ z⟩
    have split : ∀ b : Addr, (∃ p ∈ cs, p.2 = b) ∨ ∀ p ∈ cs, p.2 ≠ b := fun b => by
      by_cases z : ∃ p ∈ cs, p.2 = b
      · exact .inl z
      · exact .inr fun p hp eq => z ⟨p, hp, eq⟩
    refine ⟨rfl, ⟨fun b o e => ?_, fun b o e => ?_⟩, os, bare⟩
    · rcases split b with ⟨p, hp, rfl⟩ | nb
      · obtain ⟨more, hm⟩ := grew p hp
        rw [gT p hp] at e; cases e
        exact .inr (.inl ⟨((hd p hp).tab (gT p hp)).isCodeTable, rfl, #[], more, rfl, by rw [Array.empty_append]; exact hm⟩)
      · exact .inl (old b o nb e)
    · rcases split b with ⟨p, hp, rfl⟩ | nb
      · obtain ⟨more, hm⟩ := grew p hp
        exact ⟨_, hm⟩
      · exact ⟨o, old b o nb e⟩
theorem law_hp {P : Program} {w : World} {K : PySem.W.Frag} {h : Heap} {cs : List (Addr × Addr)} {a : Addr} {us : List Value} {ns : List Int} (inK : K.In h) (gT : ∀ p ∈ cs, h.get? p.2 = some { cls := .none, data := .fields #[] }) (gA : h.get? a = some { cls := .type "list", data := .seq us.toArray }) (hia : IntsAre us ns) (few : ns.length ≤ sizeLine) :
    ∃ H, LawHp P w K h cs a ns H := by
  have rv := vals_ints hia
  have lenV := hia.length
  have na : ∀ p ∈ cs, p.2 ≠ a := by
    rintro p hp rfl
    rw [gT p hp] at gA; cases gA
  classical
  by_cases hk : K.lookup a = none
  · refine ⟨fun b => if b = a then some (.frz { cls := .type "list", data := .seq us.toArray } (.lst (ns.map V.int))) else if ∃ p ∈ cs, p.2 = b then some (.tbl #[]) else none, ?_, fun b u e => ?_, ?_, fun b u e => ?_⟩
    · intro p hp
      show (if p.2 = a then _ else if ∃ y ∈ cs, y.2 = p.2 then _ else _) = _
      rw [if_neg (na p hp), if_pos ⟨p, hp, rfl⟩]
    · have e : (if b = a then some (HO.frz { cls := .type "list", data := .seq us.toArray } (.lst (ns.map V.int))) else if ∃ p ∈ cs, p.2 = b then some (.tbl #[]) else none) = some u := e
      by_cases z : b = a
      · rw [if_pos z] at e; cases e; exact .inr ⟨z, hk, _, rfl⟩
      · rw [if_neg z] at e
        split at e
        · rename_i z2; cases e; exact .inl ⟨z2, rfl⟩
        · cases e
    · exact .inl (.inr ⟨{ cls := .type "list", data := .seq us.toArray }, if_pos rfl⟩)
    · have e : (if b = a then some (HO.frz { cls := .type "list", data := .seq us.toArray } (.lst (ns.map V.int))) else if ∃ p ∈ cs, p.2 = b then some (.tbl #[]) else none) = some u := e
      by_cases z : b = a
      · rw [if_pos z] at e; cases e
        subst z
        exact ⟨gA, by rw [List.length_map]; exact few, us, _, rv, gA⟩
      · rw [if_neg z] at e
        split at e
        · rename_i z2
          cases e
          obtain ⟨p, hp, rfl⟩ := z2
          exact gT p hp
        · cases e
  · obtain ⟨o, ho⟩ : ∃ o, K.lookup a = some o := by
      cases q : K.lookup a with
      | none => exact absurd q hk
      | some o => exact ⟨o, rfl⟩
    have eo := inK a o ho
    rw [gA] at eo; cases eo
    refine ⟨fun b => if ∃ p ∈ cs, p.2 = b then some (.tbl #[]) else none, fun p hp => if_pos ⟨p, hp, rfl⟩, fun b u e => ?_, .inr ⟨_, us.toArray, _, ho, rfl, rfl, rfl, by rw [List.size_toArray, lenV]; exact few, by simpa using rv⟩, fun b u e => ?_⟩
    · have e : (if ∃ p ∈ cs, p.2 = b then some (HO.tbl #[]) else none) = some u := e
      split at e
      · rename_i z2; cases e; exact .inl ⟨z2, rfl⟩
      · cases e
    · have e : (if ∃ p ∈ cs, p.2 = b then some (HO.tbl #[]) else none) = some u := e
      split at e
      · rename_i z2
        cases e
        obtain ⟨p, hp, rfl⟩ := z2
        exact gT p hp
      · cases e
/-- what is known of the law's promise at the head's heap -/
def LawAtG (l : PySem.W.OpenLaw) (w : World) (K : PySem.W.Frag) (CX : CXT) (k n : Nat) (x : Str) (mg : Str → Option Value) (fa : Addr) (h : Heap) : Prop :=
  ∃ (fd : FuncData) (cs : List (Addr × Addr)) (sp : Sp), (∀ p ∈ cs, h.get? p.2 = some { cls := .none, data := .fields #[] }) ∧ (∀ p ∈ cs, K.lookup p.2 = none) ∧ (∀ p ∈ cs, PySem.W.CodeHd h p.1 p.2) ∧ (∀ (s : Shared) (u : Value), BindsTo s fd ⟨[u], []⟩ [(x, u)]) ∧
    (∀ (P : Program) (H : Hp) (a : Addr) (ns : List Int), ns.length ≤ n → (∀ z ∈ ns, Builtin.Int.intBits z ≤ 1048576) → LawHp P w K h cs a ns H → sp [.ref a] H (fun v _ => v = .bl true) fun _ _ _ => False) ∧
    ∀ base : Heap, K.In base → base.Ns mainGlobals mg → (∀ p ∈ cs, LamX.TabB base mg p.1 p.2) → FnG l.prog w K mg base CX k fa fd [x] sp
theorem walk_ofG {l : PySem.W.OpenLaw} {n k : Nat} {q : Program} {loose : List Str} {XP : (Str → Option Value) → Heap → Prop} {YP : World → Heap → Prop} {d : DefRec} {CX : World → CXT} {x : Str}
    (hn : l.most = some n) (hn2 : n ≤ sizeLine) (nodef : d.params.defaults = []) (room : RoomG k callerA)
    (F : ∀ (w : World) (mg : Str → Option Value) (fa : Addr) (h : Heap), YP w h → h.Ns mainGlobals mg → mg d.name = some (.ref fa) → ∃ K : PySem.W.Frag, K.In h ∧ LawAtG l w K (CX w) k n x mg fa h)
    (noX : ∀ (w : World) (H : Hp) (s : Shared) (e : Value) (s' : Shared), CX w [] H s (fun _ _ _ => False) e s' → False) :
    PySem.W.WalkO q loose XP YP l.row.toRowW d [] (fun f vs => PySem.call f vs) := by
  refine Att.attach_callB hn nodef fun w s₀ s₁ mg mb fa o pm cd doc a us ns G Y ho hd hcd hmg hobj hints hlen hbits hg => ?_
  obtain ⟨K, inK, fd, cs, sp, gT, kT, C, hb, hsp, hF⟩ := F w mg fa _ Y G.T.g hmg
  obtain ⟨H, L⟩ := law_hp (P := l.prog) (w := w) inK gT hobj hints (Nat.le_trans hlen hn2)
  exact law_run L inK G.T.g G.T.b G.T.builtins G.T.nolimit hg gT kT C G.T.bmain hobj room hF hb (hsp l.prog H a ns hlen hbits L) fun H e s' => noX w H s₁ e s'
end
end GR
/-! HH -/
set_option linter.all false
set_option maxRecDepth 100000
set_option maxHeartbeats 2000000
/-! The head's Hook: any truth over what the module's names reach, the defs, the tables of code objects. -/
namespace GR
section
open PySem PySem.W L2 He
/-- an empty table of code objects -/
def isTab0 : Obj → Bool
  | ⟨.none, none, .fields vs, sl⟩ => vs.isEmpty && sl.isEmpty
  | _ => false
theorem isTab0_ok {o : Obj} (h : isTab0 o = true) : o = { cls := .none, data := .fields #[] } := by
  unfold isTab0 at h
  split at h
  · simp only [Bool.and_eq_true, Array.isEmpty_iff] at h
    obtain ⟨h1, h2⟩ := h
    subst h1 h2
    rfl
  · cases h
def noTabs (g : Addr → Option Obj) : Addr → Option Obj := fun a => match g a with
  | some o => if isTab0 o = true then none else some o
  | none => none
def reach (n : Nat) (g : Addr → Option Obj) : Frag := frG (noTabs g) (asD (noTabs g) n)
theorem reach_look {n : Nat} {g : Addr → Option Obj} {a : Addr} {o : Obj} (h : (reach n g).lookup a = some o) : g a = some o ∧ isTab0 o = false := by
  have e : noTabs g a = some o := frG_at _ h
  unfold noTabs at e
  split at e
  · rename_i o' ho
    split at e
    · cases e
    · rename_i hn
      cases e
      exact ⟨ho, by simpa using hn⟩
  · cases e
/-- the code object of a def, the table that it names -/
def codeAd (K : Frag) (p : Str × Option Str) : Addr := match K.lookup (fAd K p) with
  | some ⟨_, _, .func fd, _⟩ => (match fd.code with
    | .ref c => c
    | _ => 0)
  | _ => 0
def tabAd (K : Frag) (p : Str × Option Str) : Addr := match K.lookup (codeAd K p) with
  | some ⟨_, _, .fields vs, _⟩ => (match (vs[11]? : Option Value) with
    | some (.ref P) => P
    | _ => 0)
  | _ => 0
def tabOk (g : Addr → Option Obj) (K : Frag) (p : Str × Option Str) : Bool := codeHdIn K (codeAd K p) (tabAd K p) && (match g (tabAd K p) with
  | some o => isTab0 o
  | none => false)
abbrev AlP : Type := Bool × List FnW
def obsP (n : Nat) (pr : Frag → Bool) (fn : List DefD) (tb : List (Str × Option Str)) (g : Addr → Option Obj) : AlP := (pr (reach n g) && (fn.all fun d => d.ok (reach n g)) && (tb.all fun p => tabOk g (reach n g) p), fn.map fun d => fnW (reach n g) d.at_)
structure SaysP (pr : Frag → Bool) (fn : List DefD) (tb : List (Str × Option Str)) (K : Frag) (h : Heap) : Prop where
  inK : K.In h
  pr : pr K = true
  fns : ∀ d ∈ fn, d.ok K = true ∧ fnW K d.at_ = d.val
  tab : ∀ p ∈ tb, codeHdIn K (codeAd K p) (tabAd K p) = true ∧ h.get? (tabAd K p) = some { cls := .none, data := .fields #[] } ∧ K.lookup (tabAd K p) = none
theorem saysP_of {n : Nat} {pr : Frag → Bool} {fn : List DefD} {tb : List (Str × Option Str)} {h : Heap} (e : obsP n pr fn tb h.get? = (true, fn.map DefD.val)) : SaysP pr fn tb (reach n h.get?) h := by
  have e1 : (pr (reach n h.get?) && (fn.all fun d => d.ok (reach n h.get?)) && (tb.all fun p => tabOk h.get? (reach n h.get?) p)) = true := congrArg (fun z : AlP => z.1) e
  have e2 : (fn.map fun d => fnW (reach n h.get?) d.at_) = fn.map DefD.val := congrArg (fun z : AlP => z.2) e
  simp only [Bool.and_eq_true, List.all_eq_true] at e1
  obtain ⟨⟨h1, h2⟩, h3⟩ := e1
  refine ⟨fun a o q => (reach_look q).1, h1, fun d hd => ⟨h2 d hd, ?_⟩, fun p hp => ?_⟩
  · exact List.map_inj_left.mp e2 d hd
  · have t := h3 p hp
    unfold tabOk at t
    obtain ⟨t1, t2⟩ := Bool.and_eq_true_iff.mp t
    cases q : h.get? (tabAd (reach n h.get?) p) with
    | none => rw [q] at t2; cases t2
    | some o =>
      rw [q] at t2
      have eo := isTab0_ok t2
      refine ⟨t1, by rw [eo], ?_⟩
      cases z : (reach n h.get?).lookup (tabAd (reach n h.get?) p) with
      | none => rfl
      | some o' =>
        obtain ⟨z1, z2⟩ := reach_look z
        rw [q] at z1; cases z1
        exact absurd z2 (by rw [show isTab0 o = true from t2]; exact Bool.noConfusion)
def hookP (n : Nat) (pr : Frag → Bool) (fn : List DefD) (tb : List (Str × Option Str)) : Hook where
  α := AlP
  obs := fun s => obsP n pr fn tb s.heap.get?
  val := fun _ => (true, fn.map DefD.val)
  says := fun _ h => ∃ K, SaysP pr fn tb K h
  of := fun _ _ e => ⟨_, saysP_of e⟩
  keeps := fun _ _ _ ⟨K, c⟩ k => ⟨K, ⟨Frag.In.keeps c.inK k, c.pr, c.fns, fun p hp => ⟨(c.tab p hp).1, k _ _ (c.tab p hp).2.1, (c.tab p hp).2.2⟩⟩⟩
theorem obsP_eq {n : Nat} {pr : Frag → Bool} {fn : List DefD} {tb : List (Str × Option Str)} {g : Addr → Option Obj} {s : Shared} (h : ∀ a, g a = s.heap.get? a) : obsP n pr fn tb g = (hookP n pr fn tb).obs s := by
  have e : g = s.heap.get? := funext h
  rw [e] <;> rfl
theorem SaysP.def_ {pr : Frag → Bool} {fn : List DefD} {tb : List (Str × Option Str)} {K : Frag} {h : Heap} (c : SaysP pr fn tb K h) (i : Nat) {d : DefD} (hi : fn[i]? = some d := by rfl) : ∃ fd, FunD K d.name d.qual d.params d.body d.scope (d.dvs K) (d.kws K) (fAd K d.at_) fd := by
  obtain ⟨h1, h2⟩ := c.fns d (List.mem_of_getElem? hi)
  exact DefD.funD h2 h1
end
end GR
/-! HI -/
set_option linter.all false
set_option maxRecDepth 100000
set_option maxHeartbeats 2000000
/-! From the Hook's truths: defs, errors. -/
namespace GR
section
open PySem PySem.W L2 He
theorem fun_of {K : Frag} {x qual : Str} {st : Stmt} {f : Addr} {fd : FuncData} (F : FunD K x qual (defArgs st) (defBody st) (defScope st) [] [] f fd) : L2.Fun K x qual st f fd := by
  obtain ⟨oc, od, dV, kV, doc, pm, an, cdv, ct, osl, e, lk, hc, hd, _⟩ := F.ex
  rcases hd with ⟨_, rfl⟩ | ⟨z, _⟩
  · exact ⟨⟨oc, od, kV, doc, pm, an, cdv, ct, osl, e, lk, hc⟩, F.kp⟩
  · exact absurd rfl z
/-- the class object of an error -/
def exObjB (K : Frag) (C : Addr) : Bool := match K.lookup C with
  | some ⟨.type "type", _, .cls cd, sl⟩ => (match cd.mro, sl.toList with
    | .ref C' :: bm, [_, _, _, _, some (.builtin n), _] => C' == C && n == "ValueError.__new__" && !cd.hasDel && cd.hasDict && PySem.HandSPX.refsVE bm
    | _, _ => false)
  | _ => false
theorem exObjB_ok {K : Frag} {C : Addr} (q : exObjB K C = true) : ∃ nm q N bs bm sn sub ab col dd k0 k1 k2 k3 k5, K.lookup C = some (excClassObj nm q C N bs bm true sn sub ab col dd k0 k1 k2 k3 k5 "ValueError.__new__") ∧ PySem.HandSPX.refsVE bm = true := by
  unfold exObjB at q
  split at q
  · rename_i dd cd sl ho
    split at q
    · rename_i C' bm k0 k1 k2 k3 n k5 hm hs
      simp only [Bool.and_eq_true, beq_iff_eq, Bool.not_eq_true'] at q
      obtain ⟨⟨⟨⟨e1, e2⟩, hdel⟩, hdict⟩, hve⟩ := q
      subst e1 e2
      obtain ⟨nm, bs, mro, ns, qn, hdd, sn, sub, ab, col, del⟩ := cd
      dsimp only at hm hdel hdict
      subst hm hdel hdict
      have hsl : sl = #[k0, k1, k2, k3, some (.builtin "ValueError.__new__"), k5] := by
        obtain ⟨l⟩ := sl
        simp only at hs
        rw [hs]
      subst hsl
      exact ⟨nm, qn, ns, bs, bm, sn, sub, ab, col, dd, k0, k1, k2, k3, k5, ho, hve⟩
    · cases q
  · cases q
abbrev gErr : Str × Option Str := ("GrowthError", some "__init__")
/-- what is looked at of an error's class -/
def errB (K : Frag) (x : Str) : Bool :=
  eqO (nsIn K mainGlobals x) (some (some (.ref (ga K x)))) && exObjB K (ga K x) && eqO (findIn K (.ref (ga K x)) "__setattr__") (some (some (.builtin "object.__setattr__"))) &&
  eqO (findIn K (.ref (ga K x)) "__getattribute__") (some (some (.builtin "BaseException.__getattribute__"))) && eqO (findIn K (.ref (ga K x)) "__getattr__") (some none) && eqO (findIn K (.ref (ga K x)) "value") (some none) &&
  eqO (findIn K (.ref (ga K x)) "__init__") (some (some (.ref (fAd K gErr)))) && decide (typeIn K (.ref (fAd K gErr)) = some (.type "function")) && keepIn K (.ref (ga K x)) && decide (subIn K (.ref (ga K x)) (.type "BaseException") = some true) &&
  decide (typeIn K (.ref (ga K x)) = some (.type "type")) && hasDictIn K (ga K x) && eqO (findIn K (.ref (ga K x)) "__class__") (some (some (.builtin "object.__class__"))) &&
  eqO (specialIn K (.builtin "object.__class__") "__get__") (some (some (.builtin "getset_descriptor.__get__"))) && decide (takesIn K (.builtin "object.__class__") = some true) && decide (mroIn K (ga K x) (.type "object") = some true) &&
  (clsIn K (ga K x)).isSome && decide (kitOne K (.ref (ga K x)) (.type "ValueError") = some true)
def errPair (K : Frag) (nm : List Str) : Bool := (List.range nm.length).all fun i => (List.range nm.length).all fun j =>
  decide (kitOne K (.ref (ga K (nm.getD i ""))) (.ref (ga K (nm.getD j ""))) = some (i == j || j == 0)) && decide (exmOne K (.ref (ga K (nm.getD i ""))) (.ref (ga K (nm.getD j ""))) = some (i == j || j == 0)) && (i == j || !(ga K (nm.getD i "") == ga K (nm.getD j "")))
def errsB (nm : List Str) (K : Frag) : Bool := nm.all (errB K) && errPair K nm
def eca (K : Frag) (nm : List Str) (i : Nat) : Addr := ga K (nm.getD i "")
theorem errs_of {K : Frag} {h : Heap} {mg : Str → Option Value} {nm : List Str} {st : Stmt} {p1 p2 q1 q2 q3 q4 : Pos} {fd : FuncData} (X : K.In h) (G : h.Ns mainGlobals mg) (c : errsB nm K = true)
    (F : L2.Fun K "__init__" "GrowthError.__init__" st (fAd K gErr) fd) (ha : defArgs st = PySem.GrErr.iA p1 p2 := by rfl) (hb : defBody st = PySem.GrErr.iB q1 q2 q3 q4 := by rfl) (hs : defScope st = PySem.GrErr.iS := by rfl) : Errs K mg (eca K nm) (fAd K gErr) nm := by
  unfold errsB at c
  obtain ⟨c1, c2⟩ := ba c
  have one : ∀ x ∈ nm, errB K x = true := fun x hx => List.all_eq_true.mp c1 x hx
  have two : ∀ i j, i < nm.length → j < nm.length → kitOne K (.ref (eca K nm i)) (.ref (eca K nm j)) = some (i == j || j == 0) ∧ exmOne K (.ref (eca K nm i)) (.ref (eca K nm j)) = some (i == j || j == 0) ∧ (i = j ∨ eca K nm i ≠ eca K nm j) := fun i j hi hj => by
    have e := List.all_eq_true.mp (List.all_eq_true.mp c2 i (List.mem_range.mpr hi)) j (List.mem_range.mpr hj)
    simp only [Bool.and_eq_true, decide_eq_true_eq, Bool.or_eq_true, beq_iff_eq, Bool.not_eq_true', beq_eq_false_iff_ne] at e
    exact ⟨e.1.1, e.1.2, e.2⟩
  have mem : ∀ i, i < nm.length → nm.getD i "" ∈ nm := fun i hi => by
    rw [List.getD_eq_getElem?_getD, List.getElem?_eq_getElem hi]; exact List.getElem_mem hi
  have at_ : ∀ i x, nm[i]? = some x → eca K nm i = ga K x := fun i x e => by
    unfold eca
    rw [List.getD_eq_getElem?_getD, e]; rfl
  obtain ⟨oc, od, kV, doc, pm, an, cdv, ct, osl, efd, lk, hcd⟩ := F.ex
  rw [ha, hb, hs] at efd
  subst efd
  refine { txt := fun i x hx => ?_, inj := fun i j hi hj e => ?_, cls := fun i hi => ?_, ex := fun i hi => ?_, isO := fun i j hi hj => (two i j hi hj).1, isV := fun i hi => ?_, exm := fun i j hi hj => (two i j hi hj).2.1 }
  · rw [at_ i x hx]
    have b := one x (List.mem_of_getElem? hx)
    unfold errB at b
    simp only [Bool.and_eq_true] at b
    obtain ⟨⟨⟨⟨⟨⟨⟨⟨⟨⟨⟨⟨⟨⟨⟨⟨⟨b1, b2⟩, b3⟩, b4⟩, b5⟩, b6⟩, b7⟩, b8⟩, b9⟩, b10⟩, b11⟩, b12⟩, b13⟩, b14⟩, b15⟩, b16⟩, b17⟩, b18⟩ := b
    exact { gC := PySem.W.mg_of X G (eqO_ok b1), cls := exObjB_ok b2, sa := eqO_ok b3, ga := eqO_ok b4, gg := eqO_ok b5, noN := eqO_ok b6, iC := eqO_ok b7, tC := of_decide_eq_true b8, kC := b9, exC := of_decide_eq_true b10, tyC := of_decide_eq_true b11, hdC := b12
            fn := ⟨oc, od, kV, doc, pm, an, cdv, ct, osl, p1, p2, q1, q2, q3, q4, lk, hcd⟩ }
  · exact (two i j hi hj).2.2.resolve_right fun z => z e
  · have b := one _ (mem i hi)
    unfold errB at b
    simp only [Bool.and_eq_true] at b
    exact b.1.2
  · have b := one _ (mem i hi)
    unfold errB at b
    simp only [Bool.and_eq_true] at b
    obtain ⟨⟨⟨⟨⟨⟨⟨⟨⟨⟨⟨⟨⟨⟨⟨⟨⟨b1, b2⟩, b3⟩, b4⟩, b5⟩, b6⟩, b7⟩, b8⟩, b9⟩, b10⟩, b11⟩, b12⟩, b13⟩, b14⟩, b15⟩, b16⟩, b17⟩, b18⟩ := b
    exact { hg := eqO_ok b4, hk := eqO_ok b5, hs := of_decide_eq_true b10, hd := b12, ha := eqO_ok b13, hn := eqO_ok b14, ht := of_decide_eq_true b15, hm := of_decide_eq_true b16 }
  · have b := one _ (mem i hi)
    unfold errB at b
    simp only [Bool.and_eq_true] at b
    exact of_decide_eq_true b.2
end
end GR
/-! HJ -/
set_option linter.all false
set_option maxRecDepth 100000
/-! Short ways for the derivations. -/
namespace GR
open PySem PySem.Spec PyProof.Rows L2
section
variable {P : Program} {w : World} {K : PySem.W.Frag} {mg : Str → Option Value} {base : Heap} {N : List Str} {qual : Str} {scope : Scope} {f : Addr} {cdv : Value} {A : Around} {outer : List PySem.Env} {s : Shared} {H : Hp} {E : XK}
theorem takes_def : Takes (cxOf (L2.CX P w) P w K mg base N qual scope f cdv A outer s H E) (fun cls d _ H' => E cls d H') := takes_of (X := cxOf (L2.CX P w) P w K mg base N qual scope f cdv A outer s H E) rfl rfl rfl rfl
theorem passes_def : PassesOwn (model P w) (cxOf (L2.CX P w) P w K mg base N qual scope f cdv A outer s H E).A (cxOf (L2.CX P w) P w K mg base N qual scope f cdv A outer s H E).env (cxOf (L2.CX P w) P w K mg base N qual scope f cdv A outer s H E).xe := passes_of (X := cxOf (L2.CX P w) P w K mg base N qual scope f cdv A outer s H E) rfl
end
section
variable [TabT] {X : Cx} {g : Cfg} {W : WX} {tn tn' : Bool} {e : Expr} {es : List Expr} {fe : EF} {fa : AF} {pos pos' : Pos} {j : Nat} {a dd : Addr} {d : D} {K : PySem.W.Frag}
theorem mv_at (r : R1) (env : GR.Env) : mv (g.at K j a dd d) r env = mv g r env := by cases r <;> rfl
theorem mvs_at : ∀ (rs : List R1) (env : GR.Env), mvs (g.at K j a dd d) rs env = mvs g rs env
  | [], _ => rfl
  | r :: rs, env => by
    unfold mvs
    rw [mv_at]
    cases mv g r env with
    | none => rfl
    | some de =>
      simp only
      rw [mvs_at rs]
theorem fNew_at (gg : List D → Option D) : fNew (g.at K j a dd d) gg fa = fNew g gg fa := by
  funext env
  unfold fNew
  cases fa env with
  | none => rfl
  | some re =>
    obtain ⟨r, e⟩ := re
    cases r with
    | exc C d => rfl
    | vals rs => simp only; rw [mvs_at]
theorem fRet_at : fRet (g.at K j a dd d) fe = fRet g fe := by
  funext env
  unfold fRet
  cases fe env with
  | none => rfl
  | some re =>
    obtain ⟨r, e⟩ := re
    cases r <;> simp only [mv_at]
theorem fSet_at (i : Nat) : fSet (g.at K j a dd d) i fe = fSet g i fe := by
  funext env
  unfold fSet
  cases fe env with
  | none => rfl
  | some re =>
    obtain ⟨r, e⟩ := re
    cases r <;> simp only [mv_at]
/-! the same rules in a suite -/
theorem de_lstS (h : DA X (g.at K j a dd d) W es fa) : DE X (g.at K j a dd d) W true (.List es pos) (fNew g gLstD fa) := by rw [← fNew_at (K := K) (j := j) (a := a) (dd := dd) (d := d)]; exact de_lst h
theorem de_tupS {x1} (h : DA X (g.at K j a dd d) W es fa) : DE X (g.at K j a dd d) W true (.Tuple es x1 pos) (fNew g gTupD fa) := by rw [← fNew_at (K := K) (j := j) (a := a) (dd := dd) (d := d)]; exact de_tup h
theorem ds_retS (he : DE X (g.at K j a dd d) W tn e fe) : DS X (g.at K j a dd d) W tn (.Return (some e) pos) (fRet g fe) := by rw [← fRet_at (K := K) (j := j) (a := a) (dd := dd) (d := d)]; exact ds_ret he
theorem ds_setS (i : Nat) {x : Str} (he : DE X (g.at K j a dd d) W tn' e fe) (hi : i ∉ g.own) (hxf : exFree (g.at K j a dd d) i = true) (hN : X.N.Nodup) (hx : X.N[i]? = some x) (hl : Loc X.env.scope x)
    (hs : swapsWith e (some (.Name x pos')) pos.line X.env = pure false) (hf : X.fn x = true ∨ X.env.scope.names.lookup x = some .local) : DS X (g.at K j a dd d) W tn (.Assign [.Name x pos'] e pos) (fSet g i fe) := by
  rw [← fSet_at (K := K) (j := j) (a := a) (dd := dd) (d := d)]; exact ds_set i he hi hxf hN hx hl hs hf
end
section
variable [TabT] {X : Cx} {g : Cfg} {W : WX} {x : Str} {p : Pos} {ca : Nat → Addr} {fI : Addr} {nm : List Str}
theorem de_err (T : Errs X.K X.mg ca fI nm) (i : Nat) (hi : nm[i]? = some x) (hg : Gl X x) (hd : (x == ("__debug__" : Str)) = false := by decide) : DE X g W false (.Name x p) (fC (.gl (ca i))) := de_glob hg (T.txt i x hi).gC (show RelV (.ref (ca i)) (.ref (ca i)) from rfl) (fun _ _ => .gl) hd
end
theorem ty_append : typeOf (.builtin "list.append") = pure (.type "method_descriptor") := by show builtinType _ = _; rw [builtinType_eq_fast]; kernel_rfl
theorem ty_insert : typeOf (.builtin "list.insert") = pure (.type "method_descriptor") := by show builtinType _ = _; rw [builtinType_eq_fast]; kernel_rfl
theorem ty_reverse : typeOf (.builtin "list.reverse") = pure (.type "method_descriptor") := by show builtinType _ = _; rw [builtinType_eq_fast]; kernel_rfl
theorem ty_clear : typeOf (.builtin "list.clear") = pure (.type "method_descriptor") := by show builtinType _ = _; rw [builtinType_eq_fast]; kernel_rfl
theorem ty_pop : typeOf (.builtin "list.pop") = pure (.type "method_descriptor") := by show builtinType _ = _; rw [builtinType_eq_fast]; kernel_rfl
/-- the block's names, looked through -/
def blkB (N : List Str) (sc scope : Scope) (own : List (Str × Nat)) : Bool := decide (scope.kind = .function) && (scope.names.all fun y => decide (scope.names.lookup y.1 = some y.2)) && (own.all fun p => decide (N[p.2]? = some p.1)) &&
  (scope.names.all fun y => !decide (y.2 = .free) || decide (sc.names.lookup y.1 = some .cell) || decide (sc.names.lookup y.1 = some .free)) && (scope.names.all fun y => (!decide (y.2 = .local) && !decide (y.2 = .cell)) || decide (y.1 ∈ own.map (·.1)) || !decide (y.1 ∈ N))
theorem blk_of {N : List Str} {sc scope : Scope} {own : List (Str × Nat)} (h : blkB N sc scope own = true) : BlkOk N sc scope own := by
  unfold blkB at h
  simp only [Bool.and_eq_true, decide_eq_true_eq, List.all_eq_true, Bool.or_eq_true, Bool.not_eq_true', decide_eq_false_iff_not] at h
  obtain ⟨⟨⟨⟨h1, h2⟩, h3⟩, h4⟩, h5⟩ := h
  refine ⟨h1, h2, h3, fun y hy e => ?_, fun y hy e => ?_⟩
  · rcases h4 y hy with (z | z) | z
    · exact absurd e z
    · exact .inl z
    · exact .inr z
  · rcases h5 y hy with (z | z) | z
    · rcases e with e | e
      · exact absurd e z.1
      · exact absurd e z.2
    · exact .inl z
    · exact .inr z
/-! ### powers of wider numbers -/
def gPow3 : D → D → Option D
  | .int a, .int b => if 0 ≤ b ∧ ((b ≤ 1000000 ∧ a.natAbs < 2 ^ 64) ∨ (b ≤ 1000 ∧ a.natAbs < 2 ^ 1024)) then some (.int (a ^ b.toNat)) else none
  | _, _ => none
def rPow3 : R2 := rI (fun i j => 0 ≤ j ∧ (Builtin.Int.intBits i : Int) * j ≤ 2 ^ 27) fun i j => .int (i ^ j.toNat)
theorem op_pow3 {X : Cx} : OpR X (binaryOp .Pow) rPow3 := opI fun _ _ _ _ _ _ _ hc q => pow_int hc.1 hc.2 q
theorem bits_of {a : Int} {k : Nat} (h : a.natAbs < 2 ^ k) : Builtin.Int.intBits a ≤ k := by
  unfold Builtin.Int.intBits
  by_cases z : a = 0
  · subst z; exact Nat.zero_le _
  · have z' : a.natAbs ≠ 0 := by omega
    have := (Nat.log2_lt z').mpr h
    rw [if_neg (by simpa using z)]
    omega
theorem o2_pow3 [TabT] {K : PySem.W.Frag} : Op2 K rPow3 true gPow3 := fun H R L x y dx dy d Q rx ry hf e k => by
  unfold gPow3 at e
  split at e
  · rename_i a b
    split at e
    · rename_i hc
      cases e
      obtain rfl := rx.int
      obtain rfl := ry.int
      refine ⟨a, b, rfl, rfl, ⟨hc.1, ?_⟩, k _ H (fun _ _ h => h) .int nv⟩
      rcases hc.2 with ⟨h1, h2⟩ | ⟨h1, h2⟩
      · have h3 : (Builtin.Int.intBits a : Int) ≤ 64 := by exact_mod_cast bits_of h2
        have h4 : (Builtin.Int.intBits a : Int) * b ≤ 64 * 1000000 := Int.mul_le_mul h3 h1 hc.1 (by decide)
        omega
      · have h3 : (Builtin.Int.intBits a : Int) ≤ 1024 := by exact_mod_cast bits_of h2
        have h4 : (Builtin.Int.intBits a : Int) * b ≤ 1024 * 1000 := Int.mul_le_mul h3 h1 hc.1 (by decide)
        omega
    · cases e
  · cases e
end GR
/-! IA -/
set_option linter.all false
set_option maxRecDepth 100000
/-! Running the functions on data: what holds behind each form. -/
namespace GR
open PySem L2
def wO {α β : Type} (o : Option (α × β)) (Q : α → β → Prop) : Prop := ∃ a b, o = some (a, b) ∧ Q a b
theorem wO.mono {α β : Type} {o : Option (α × β)} {Q Q' : α → β → Prop} (h : wO o Q) (m : ∀ a b, Q a b → Q' a b) : wO o Q' := by
  obtain ⟨a, b, e, q⟩ := h
  exact ⟨a, b, e, m a b q⟩
theorem wO.of {α β : Type} {o : Option (α × β)} {Q : α → β → Prop} {a : α} {b : β} (e : o = some (a, b)) (q : Q a b) : wO o Q := ⟨a, b, e, q⟩
theorem wO.eq {α β : Type} {o : Option (α × β)} {a : α} {b : β} (h : wO o fun x y => x = a ∧ y = b) : o = some (a, b) := by
  obtain ⟨x, y, e, rfl, rfl⟩ := h
  exact e
/-- exceptions go on -/
@[reducible] def kE (Q k : R1 → Env → Prop) : R1 → Env → Prop
  | .exc C d, e => Q (.exc C d) e
  | .val d, e => k (.val d) e
  | .slot i, e => k (.slot i) e
@[reducible] def kAE (Q : R1 → Env → Prop) (k : List R1 → Env → Prop) : RA → Env → Prop
  | .exc C d, e => Q (.exc C d) e
  | .vals rs, e => k rs e
@[reducible] def kAA (Q : RA → Env → Prop) (k : List R1 → Env → Prop) : RA → Env → Prop
  | .exc C d, e => Q (.exc C d) e
  | .vals rs, e => k rs e
@[reducible] def kEA (Q : RA → Env → Prop) (k : R1 → Env → Prop) : R1 → Env → Prop
  | .exc C d, e => Q (.exc C d) e
  | .val d, e => k (.val d) e
  | .slot i, e => k (.slot i) e
@[reducible] def kS (Q : Fl → Env → Prop) (k : R1 → Env → Prop) : R1 → Env → Prop
  | .exc C d, e => Q (.exc C d) e
  | .val d, e => k (.val d) e
  | .slot i, e => k (.slot i) e
@[reducible] def kET (Q : RT → Env → Prop) (k : R1 → Env → Prop) : R1 → Env → Prop
  | .exc C d, e => Q (.exc C d) e
  | .val d, e => k (.val d) e
  | .slot i, e => k (.slot i) e
@[reducible] def kEI (Q : RI → Env → Prop) (k : R1 → Env → Prop) : R1 → Env → Prop
  | .exc C d, e => Q (.exc C d) e
  | .val d, e => k (.val d) e
  | .slot i, e => k (.slot i) e
@[reducible] def kAI (Q : RI → Env → Prop) (k : List R1 → Env → Prop) : RA → Env → Prop
  | .exc C d, e => Q (.exc C d) e
  | .vals rs, e => k rs e
@[reducible] def kSeq (Q : Fl → Env → Prop) (k : Env → Prop) : Fl → Env → Prop
  | .nx, e => k e
  | .ret d, e => Q (.ret d) e
  | .brk, e => Q .brk e
  | .cnt, e => Q .cnt e
  | .exc C d, e => Q (.exc C d) e
/-- a test's two ways -/
@[reducible] def kT {α : Type} (Qx : Addr → D → Env → Prop) (t f : Env → Prop) : RT → Env → Prop
  | .exc C d, e => Qx C d e
  | .b x, e => (x = true → t e) ∧ (x = false → f e)
@[reducible] def kTb (Qx : Addr → D → Env → Prop) (k : Bool → Env → Prop) : RT → Env → Prop
  | .exc C d, e => Qx C d e
  | .b x, e => k x e

/-! what is left to say behind the parts, by name -/
def SOp2 (gg : D → D → Option D) (ra rb : R1) (e : Env) (Q : R1 → Env → Prop) : Prop := ∃ da db d, res ra e = some da ∧ res rb e = some db ∧ gg da db = some d ∧ Q (.val d) e
def SOp1 (gg : D → Option D) (ra : R1) (e : Env) (Q : R1 → Env → Prop) : Prop := ∃ da d, res ra e = some da ∧ gg da = some d ∧ Q (.val d) e
def SNew (g : Cfg) (gg : List D → Option D) (rs : List R1) (e : Env) (Q : R1 → Env → Prop) : Prop := ∃ ds e2 d, mvs g rs e = some (ds, e2) ∧ gg ds = some d ∧ Q (.val d) e2
def SApp (gg : List D → Option D) (rs : List R1) (e : Env) (Q : R1 → Env → Prop) : Prop := ∃ ds d, ress rs e = some ds ∧ gg ds = some d ∧ Q (.val d) e
def STruth (r : R1) (e : Env) (QT : RT → Env → Prop) : Prop := ∃ d b, res r e = some d ∧ d.truth = some b ∧ QT (.b b) e
def SBool (r : R1) (e : Env) (QT : RT → Env → Prop) : Prop := ∃ b, r = .val (.bl b) ∧ QT (.b b) e
/-- two ways -/
def STwo (b : Bool) (t f : Prop) : Prop := (b = true → t) ∧ (b = false → f)
def STwoE (r : R1) (k : Bool → Prop) : Prop := ∃ b, r = .val (.bl b) ∧ k b
def SRet (g : Cfg) (r : R1) (e : Env) (k : D → Env → Prop) : Prop := ∃ d e2, mv g r e = some (d, e2) ∧ k d e2
def SSet (g : Cfg) (i : Nat) (r : R1) (e : Env) (k : Env → Prop) : Prop := ∃ d e2 e3, mv g r e = some (d, e2) ∧ e2.set i (some d) = e3 ∧ k e3
def SSetOwn (i : Nat) (r : R1) (e : Env) (k : Env → Prop) : Prop := ∃ d e3, r = .val d ∧ (isBox d && decide (i < e.length)) = true ∧ e.set i (some d) = e3 ∧ k e3
def SAsg (gt : GT) (r : R1) (e : Env) (k : Env → Prop) : Prop := ∃ d e2, r = .val d ∧ gt d e = some e2 ∧ k e2
def SIx1 (g : Cfg) (j : Nat) (r : R1) (e : Env) (k : D → Env → Prop) : Prop := ∃ d e1 c0, mv g r e = some (d, e1) ∧ e1[j]?.join = some c0 ∧ k d e1
def SIx2 (j : Nat) (d : D) (ri : R1) (e2 : Env) (k : Env → Prop) : Prop := ∃ di c c' e3, ri = .val di ∧ e2[j]?.join = some c ∧ gPut c di d = some c' ∧ e2.set j (some c') = e3 ∧ k e3
def SMeth (g : Cfg) (j : Nat) (gg : D → List D → Option (D × D)) (rs : List R1) (e : Env) (k : Env → Prop) : Prop := ∃ ds e2 c r c' e3, mvs g rs e = some (ds, e2) ∧ e2[j]?.join = some c ∧ gg c ds = some (r, c') ∧ e2.set j (some c') = e3 ∧ k e3
def SFld (g : Cfg) (j : Nat) (C : Addr) (f : Str) (r : R1) (e : Env) (k : Env → Prop) : Prop := ∃ d e1 gs e3, mv g r e = some (d, e1) ∧ e1[j]?.join = some (.ins C gs) ∧ gs.length < 1000 ∧ e1.set j (some (.ins C (putFD f d gs))) = e3 ∧ k e3
def SItems (gg : D → Option (List D)) (r : R1) (e : Env) (QI : RI → Env → Prop) : Prop := ∃ d ds, r = .val d ∧ gg d = some ds ∧ QI (.items ds) e
def SItemsA (gg : List D → Option (List D)) (rs : List R1) (e : Env) (QI : RI → Env → Prop) : Prop := ∃ ds e' is, mvs ⟨[], [], [], []⟩ rs [] = some (ds, e') ∧ gg ds = some is ∧ QI (.items is) e
def SSl (r : R1) (a b : Option Int) (e : Env) (Q : R1 → Env → Prop) : Prop := ∃ d d', res r e = some d ∧ gSl a b d = some d' ∧ Q (.val d') e
def SIsX (ca : Nat → Addr) (n i : Nat) (r : R1) (e : Env) (Q : R1 → Env → Prop) : Prop := ∃ c b, r = .val c ∧ isAny ca n i c = some b ∧ Q (.val (.bl b)) e
/-- behind a def's own function -/
def SIo (e : Env) (io : List Nat) (k : List D → Prop) : Prop := ∃ os, ioOf e io = some os ∧ k os
def SPut (rs : List R1) (io : List Nat) (os : List D) (e : Env) (k : Env → Prop) : Prop := ∃ e', putIo rs io os e = e' ∧ k e'
def SVal (r : R1) (k : D → Prop) : Prop := ∃ d, r = .val d ∧ k d
def SCh1 (gg : D → D → Option D) (da : D) (rb : R1) (k : D → Bool → Prop) : Prop := ∃ db x, rb = .val db ∧ gg da db = some (.bl x) ∧ k db x
def SCh2 (gg : D → D → Option D) (db : D) (rc : R1) (k : D → Prop) : Prop := ∃ dc d, rc = .val dc ∧ gg db dc = some d ∧ k d
def SCall (F : GF) (io : List Nat) (rs : List R1) (e : Env) (P : RO → List D → Prop) : Prop := ∃ ds, ress rs e = some ds ∧ argsFit io rs = true ∧ wO (F ds) P
def SMk (C : Addr) (F : GF) (rs : List R1) (e : Env) (P : RO → List D → Prop) : Prop := ∃ ds, ress rs e = some ds ∧ wO (F (.ins C [] :: ds)) P
def SRec (C : Addr) (m : Str) (r : R1) (e : Env) (k : Prop) : Prop := ∃ gs, res r e = some (.ins C gs) ∧ (gs.lookup m).isNone = true ∧ k
def SProp (C : Addr) (F : GF) (r : R1) (e : Env) (P : RO → List D → Prop) : Prop := ∃ gs, res r e = some (.ins C gs) ∧ argsFit [] [r] = true ∧ wO (F [.ins C gs]) P
def SEnv (is : List Nat) (rs : List R1) (e : Env) (k : Env → Prop) : Prop := (is.all fun i => decide (i < e.length)) = true ∧ ∃ e3, setsD is rs e = e3 ∧ k e3
def SPar (own : Bool) (g : Cfg) (r : R1) (e : Env) (k : D → Env → Prop) : Prop := ∃ d e2, (if own = true then (match r with
        | .val d => if isBox d = true then some (d, e) else none
        | _ => none) else mv g r e) = some (d, e2) ∧ k d e2
def SCatch (ca : Nat → Addr) (n cj : Nat) (C : Addr) (k : Nat → Prop) (go : Prop) : Prop := ∃ i, labOf ca n C = some i ∧ ((i == cj || cj == 0) = true → k i) ∧ ((i == cj || cj == 0) = false → go)
def SInt (r : R1) (k : Int → Prop) : Prop := ∃ i, r = .val (.int i) ∧ k i
section
variable {env e : Env} {Q : R1 → Env → Prop} {QA : RA → Env → Prop} {QT : RT → Env → Prop} {QI : RI → Env → Prop} {QS : Fl → Env → Prop} {fa fb fc fe : EF} {fs : AF} {f1 f2 : SF} {ft : TF} {g : Cfg} {i j : Nat} {d : D}
/-! ### expressions -/
theorem w_var (h : env[i]?.join = some d) (q : Q (.val d) env) : wO (fVar i env) Q := by
  refine ⟨_, _, ?_, q⟩
  unfold fVar; rw [h]
theorem w_own (h : env[i]?.join = some d) (q : Q (.slot i) env) : wO (fOwn i env) Q := by
  refine ⟨_, _, ?_, q⟩
  unfold fOwn; rw [h]
theorem w_c (q : Q (.val d) env) : wO (fC d env) Q := ⟨_, _, rfl, q⟩
theorem w_bind {k : R1 → Env → Option (R1 × Env)} (h : wO (fa env) (kE Q fun r e => wO (k r e) Q)) : wO (bind1 fa k env) Q := by
  obtain ⟨r, e, he, q⟩ := h
  unfold bind1
  rw [he]
  cases r with
  | val d => exact q
  | slot i => exact q
  | exc C d => exact ⟨_, _, rfl, q⟩
theorem w_op2 {gg : D → D → Option D} (h : wO (fa env) (kE Q fun ra e1 => wO (fb e1) (kE Q fun rb e2 => SOp2 gg ra rb e2 Q))) : wO (fOp2 gg fa fb env) Q := by
  unfold fOp2
  refine w_bind (h.mono fun r e q => ?_)
  cases r with
  | exc C d => exact q
  | val d =>
    refine w_bind (wO.mono q fun r2 e2 q2 => ?_)
    cases r2 with
    | exc C d => exact q2
    | val d => obtain ⟨a, b, d, h1, h2, h3, q3⟩ := q2; exact ⟨_, _, by rw [h1]; simp only; rw [h2]; simp only; rw [h3], q3⟩
    | slot i => obtain ⟨a, b, d, h1, h2, h3, q3⟩ := q2; exact ⟨_, _, by rw [h1]; simp only; rw [h2]; simp only; rw [h3], q3⟩
  | slot i =>
    refine w_bind (wO.mono q fun r2 e2 q2 => ?_)
    cases r2 with
    | exc C d => exact q2
    | val d => obtain ⟨a, b, d, h1, h2, h3, q3⟩ := q2; exact ⟨_, _, by rw [h1]; simp only; rw [h2]; simp only; rw [h3], q3⟩
    | slot i => obtain ⟨a, b, d, h1, h2, h3, q3⟩ := q2; exact ⟨_, _, by rw [h1]; simp only; rw [h2]; simp only; rw [h3], q3⟩
theorem w_op1 {gg : D → Option D} (h : wO (fa env) (kE Q fun ra e1 => SOp1 gg ra e1 Q)) : wO (fOp1 gg fa env) Q := by
  unfold fOp1
  refine w_bind (h.mono fun r e q => ?_)
  cases r with
  | exc C d => exact q
  | val d => obtain ⟨a, d, h1, h2, q3⟩ := q; exact ⟨_, _, by rw [h1]; simp only; rw [h2], q3⟩
  | slot i => obtain ⟨a, d, h1, h2, q3⟩ := q; exact ⟨_, _, by rw [h1]; simp only; rw [h2], q3⟩
/-! ### argument lists -/
theorem w_anil (q : QA (.vals []) env) : wO (fANil env) QA := ⟨_, _, rfl, q⟩
theorem w_acons (h : wO (fe env) (kEA QA fun r e1 => wO (fs e1) (kAA QA fun rs e2 => QA (.vals (r :: rs)) e2))) : wO (fACons fe fs env) QA := by
  obtain ⟨r, e, he, q⟩ := h
  unfold fACons
  rw [he]
  cases r with
  | exc C d => exact ⟨_, _, rfl, q⟩
  | val d =>
    obtain ⟨rs, e2, he2, q2⟩ := q
    simp only
    rw [he2]
    cases rs with
    | exc C d => exact ⟨_, _, rfl, q2⟩
    | vals rs => exact ⟨_, _, rfl, q2⟩
  | slot i =>
    obtain ⟨rs, e2, he2, q2⟩ := q
    simp only
    rw [he2]
    cases rs with
    | exc C d => exact ⟨_, _, rfl, q2⟩
    | vals rs => exact ⟨_, _, rfl, q2⟩
theorem w_new {gg : List D → Option D} (h : wO (fs env) (kAE Q fun rs e => SNew g gg rs e Q)) : wO (fNew g gg fs env) Q := by
  obtain ⟨r, e, he, q⟩ := h
  unfold fNew
  rw [he]
  cases r with
  | exc C d => exact ⟨_, _, rfl, q⟩
  | vals rs => obtain ⟨ds, e2, d, h1, h2, q2⟩ := q; exact ⟨_, _, by simp only; rw [h1]; simp only; rw [h2], q2⟩
theorem w_app {gg : List D → Option D} (h : wO (fs env) (kAE Q fun rs e => SApp gg rs e Q)) : wO (fApp gg fs env) Q := by
  obtain ⟨r, e, he, q⟩ := h
  unfold fApp
  rw [he]
  cases r with
  | exc C d => exact ⟨_, _, rfl, q⟩
  | vals rs => obtain ⟨ds, d, h1, h2, q2⟩ := q; exact ⟨_, _, by simp only; rw [h1]; simp only; rw [h2], q2⟩
/-! ### calls -/
/-- what a def's function gives -/
def callOk (tn : Bool) (io : List Nat) (rs : List R1) (os : List D) : RO → Bool
  | .val d => os.all D.shallow && (noLent io 0 rs || d.imm || (tn && d.shallow))
  | .exc _ d => os.all D.shallow && (noLent io 0 rs || d.imm)
@[reducible] def r1Of : RO → R1
  | .val d => .val d
  | .exc C d => .exc C d
theorem w_callK {tn : Bool} {io : List Nat} {F : GF} {rs : List R1} {ds : List D} (h1 : ress rs e = some ds) (h2 : argsFit io rs = true) (h : wO (F ds) fun r os => callOk tn io rs os r = true ∧ SPut rs io os e fun e' => Q (r1Of r) e') : wO (callK tn io F rs e) Q := by
  obtain ⟨r, os, he, c, _, rfl, q⟩ := h
  unfold callK
  rw [h1]
  simp only
  rw [if_pos h2, he]
  cases r with
  | val d => exact ⟨_, _, by simp only; exact if_pos c, q⟩
  | exc C d => exact ⟨_, _, by simp only; exact if_pos c, q⟩
theorem w_call {tn : Bool} {io : List Nat} {F : GF} (h : wO (fs env) (kAE Q fun rs e => SCall F io rs e fun r os => callOk tn io rs os r = true ∧ SPut rs io os e fun e' => Q (r1Of r) e')) : wO (fCall tn io F fs env) Q := by
  obtain ⟨r, e, he, q⟩ := h
  unfold fCall
  rw [he]
  cases r with
  | exc C d => exact ⟨_, _, rfl, q⟩
  | vals rs => obtain ⟨ds, h1, h2, q2⟩ := q; exact w_callK h1 h2 q2
theorem w_callKw {tn : Bool} {io : List Nat} {F : GF} {n : Nat} {per : Perm} (h : wO (fs env) (kAE Q fun rs e => rs.length = n ∧ SCall F io (per.per rs) e fun r os => callOk tn io (per.per rs) os r = true ∧ SPut (per.per rs) io os e fun e' => Q (r1Of r) e')) : wO (fCallKw tn io F n per fs env) Q := by
  obtain ⟨r, e, he, q⟩ := h
  unfold fCallKw
  rw [he]
  cases r with
  | exc C d => exact ⟨_, _, rfl, q⟩
  | vals rs =>
    obtain ⟨h0, ds, h1, h2, q2⟩ := q
    simp only
    rw [if_pos h0]
    exact w_callK h1 h2 q2
def makeOk (C : Addr) (rs : List R1) (os : List D) : RO → Prop
  | .val d => d = .non ∧ ∃ gs, os = [.ins C gs] ∧ ((noLent [] 0 rs || D.imms (gs.map Prod.snd)) && decide (slotsOf rs).Nodup) = true
  | .exc _ d => (∃ o, os = [o]) ∧ ((noLent [] 0 rs || d.imm) && decide (slotsOf rs).Nodup) = true
@[reducible] def madeOf (C : Addr) (os : List D) : RO → R1
  | .val _ => .val (os.headD .non)
  | .exc C2 d => .exc C2 d
theorem w_makeK {C : Addr} {F : GF} {rs : List R1} {ds : List D} (h1 : ress rs e = some ds) (h : wO (F (.ins C [] :: ds)) fun r os => makeOk C rs os r ∧ Q (madeOf C os r) e) : wO (makeK C F rs e) Q := by
  obtain ⟨r, os, he, c, q⟩ := h
  unfold makeK
  rw [h1]
  simp only
  rw [he]
  cases r with
  | val d =>
    obtain ⟨rfl, gs, rfl, c2⟩ := c
    refine ⟨.val (.ins C gs), e, ?_, q⟩
    simp only
    rw [if_pos (by simpa using c2)]
  | exc C2 d =>
    obtain ⟨⟨o, rfl⟩, c2⟩ := c
    refine ⟨.exc C2 d, e, ?_, q⟩
    simp only
    rw [if_pos c2]
theorem w_make {C : Addr} {F : GF} (h : wO (fs env) (kAE Q fun rs e => SMk C F rs e fun r os => makeOk C rs os r ∧ Q (madeOf C os r) e)) : wO (fMake C F fs env) Q := by
  obtain ⟨r, e, he, q⟩ := h
  unfold fMake
  rw [he]
  cases r with
  | exc C d => exact ⟨_, _, rfl, q⟩
  | vals rs => obtain ⟨ds, h1, q2⟩ := q; exact w_makeK h1 q2
theorem w_makeKw {C : Addr} {F : GF} {n : Nat} {per : Perm} (h : wO (fs env) (kAE Q fun rs e => rs.length = n ∧ SMk C F (per.per rs) e fun r os => makeOk C (per.per rs) os r ∧ Q (madeOf C os r) e)) : wO (fMakeK C F n per fs env) Q := by
  obtain ⟨r, e, he, q⟩ := h
  unfold fMakeK
  rw [he]
  cases r with
  | exc C d => exact ⟨_, _, rfl, q⟩
  | vals rs =>
    obtain ⟨h0, ds, h1, q2⟩ := q
    simp only
    rw [if_pos h0]
    exact w_makeK h1 q2
/-! ### tests -/
theorem w_truth (h : wO (fe env) (kET QT fun r e => STruth r e QT)) : wO (fTruth fe env) QT := by
  obtain ⟨r, e, he, q⟩ := h
  unfold fTruth
  rw [he]
  cases r with
  | exc C d => exact ⟨_, _, rfl, q⟩
  | val d => obtain ⟨d, b, h1, h2, q2⟩ := q; exact ⟨_, _, by simp only; rw [h1]; simp only; rw [h2], q2⟩
  | slot d => obtain ⟨d, b, h1, h2, q2⟩ := q; exact ⟨_, _, by simp only; rw [h1]; simp only; rw [h2], q2⟩
theorem w_bool (h : wO (fe env) (kET QT fun r e => SBool r e QT)) : wO (fBool fe env) QT := by
  obtain ⟨r, e, he, q⟩ := h
  unfold fBool
  rw [he]
  cases r with
  | exc C d => exact ⟨_, _, rfl, q⟩
  | val d => obtain ⟨b, h1, q2⟩ := q; cases h1; exact ⟨_, _, rfl, q2⟩
  | slot d => obtain ⟨b, h1, q2⟩ := q; cases h1
theorem w_and {t1 t2 : TF} (h : wO (t1 env) (kTb (fun C d e => QT (.exc C d) e) fun b e => STwo b (wO (t2 e) QT) (QT (.b false) e))) : wO (fAnd t1 t2 env) QT := by
  obtain ⟨r, e, he, q⟩ := h
  unfold fAnd
  rw [he]
  cases r with
  | exc C d => exact ⟨_, _, rfl, q⟩
  | b x => cases x with
    | true => exact q.1 rfl
    | false => exact ⟨_, _, rfl, q.2 rfl⟩
theorem w_or {t1 t2 : TF} (h : wO (t1 env) (kTb (fun C d e => QT (.exc C d) e) fun b e => STwo b (QT (.b true) e) (wO (t2 e) QT))) : wO (fOr t1 t2 env) QT := by
  obtain ⟨r, e, he, q⟩ := h
  unfold fOr
  rw [he]
  cases r with
  | exc C d => exact ⟨_, _, rfl, q⟩
  | b x => cases x with
    | false => exact q.2 rfl
    | true => exact ⟨_, _, rfl, q.1 rfl⟩
theorem w_not {t1 : TF} (h : wO (t1 env) (kTb (fun C d e => QT (.exc C d) e) fun b e => QT (.b (!b)) e)) : wO (fNot t1 env) QT := by
  obtain ⟨r, e, he, q⟩ := h
  unfold fNot
  rw [he]
  cases r with
  | exc C d => exact ⟨_, _, rfl, q⟩
  | b x => exact ⟨_, _, rfl, q⟩
theorem w_ifE (h : wO (ft env) (kTb (fun C d e => Q (.exc C d) e) fun b e => STwo b (wO (fa e) Q) (wO (fb e) Q))) : wO (fIfE ft fa fb env) Q := by
  obtain ⟨r, e, he, q⟩ := h
  unfold fIfE
  rw [he]
  cases r with
  | exc C d => exact ⟨_, _, rfl, q⟩
  | b x => cases x with
    | true => exact q.1 rfl
    | false => exact q.2 rfl
theorem w_andE (h : wO (fa env) (kE Q fun r e => STwoE r fun b => STwo b (wO (fb e) Q) (Q (.val (.bl false)) e))) : wO (fAndE fa fb env) Q := by
  obtain ⟨r, e, he, q⟩ := h
  unfold fAndE
  rw [he]
  cases r with
  | exc C d => exact ⟨_, _, rfl, q⟩
  | val d => obtain ⟨b, h1, q1, q2⟩ := q; cases h1; cases b with
    | true => exact q1 rfl
    | false => exact ⟨_, _, rfl, q2 rfl⟩
  | slot d => obtain ⟨b, h1, q2⟩ := q; cases h1
theorem w_orE (h : wO (fa env) (kE Q fun r e => STwoE r fun b => STwo b (Q (.val (.bl true)) e) (wO (fb e) Q))) : wO (fOrE fa fb env) Q := by
  obtain ⟨r, e, he, q⟩ := h
  unfold fOrE
  rw [he]
  cases r with
  | exc C d => exact ⟨_, _, rfl, q⟩
  | val d => obtain ⟨b, h1, q1, q2⟩ := q; cases h1; cases b with
    | false => exact q2 rfl
    | true => exact ⟨_, _, rfl, q1 rfl⟩
  | slot d => obtain ⟨b, h1, q2⟩ := q; cases h1
theorem w_notE (h : wO (fa env) (kE Q fun r e => STwoE r fun b => Q (.val (.bl (!b))) e)) : wO (fNotE fa env) Q := by
  obtain ⟨r, e, he, q⟩ := h
  unfold fNotE
  rw [he]
  cases r with
  | exc C d => exact ⟨_, _, rfl, q⟩
  | val d => obtain ⟨b, h1, q1⟩ := q; cases h1; exact ⟨_, _, rfl, q1⟩
  | slot d => obtain ⟨b, h1, q2⟩ := q; cases h1
theorem w_chain {g1 g2 : D → D → Option D} (h : wO (fa env) (kE Q fun ra e1 => SVal ra fun da => wO (fb e1) (kE Q fun rb e2 => SCh1 g1 da rb fun db x => STwo x (wO (fc e2) (kE Q fun rc e3 => SCh2 g2 db rc fun d => Q (.val d) e3)) (Q (.val (.bl false)) e2)))) : wO (fChain g1 g2 fa fb fc env) Q := by
  obtain ⟨r, e, he, q⟩ := h
  unfold fChain
  rw [he]
  cases r with
  | exc C d => exact ⟨_, _, rfl, q⟩
  | slot i => obtain ⟨da, h1, _⟩ := q; cases h1
  | val da =>
    obtain ⟨da', h1, q⟩ := q
    cases h1
    obtain ⟨rb, e2, he2, q2⟩ := q
    simp only
    rw [he2]
    cases rb with
    | exc C d => exact ⟨_, _, rfl, q2⟩
    | slot i => obtain ⟨db, x, h2, _⟩ := q2; cases h2
    | val db =>
      obtain ⟨db', x, h2, h3, q3, q4⟩ := q2
      cases h2
      simp only
      rw [h3]
      cases x with
      | false => exact ⟨_, _, rfl, q4 rfl⟩
      | true =>
        simp only
        obtain ⟨rc, e3, he3, q5⟩ := q3 rfl
        rw [he3]
        cases rc with
        | exc C d => exact ⟨_, _, rfl, q5⟩
        | slot i => obtain ⟨dc, d, h1, _⟩ := q5; cases h1
        | val dc =>
          obtain ⟨dc', d, h1, h2, q6⟩ := q5
          cases h1
          simp only
          rw [h2]
          exact ⟨_, _, rfl, q6⟩
/-! ### statements -/
theorem w_seq (h : wO (f1 env) (kSeq QS fun e => wO (f2 e) QS)) : wO (fSeq f1 f2 env) QS := by
  obtain ⟨r, e, he, q⟩ := h
  unfold fSeq
  rw [he]
  cases r with
  | nx => exact q
  | _ => exact ⟨_, _, rfl, q⟩
theorem w_next (q : QS .nx env) : wO (fNext env) QS := ⟨_, _, rfl, q⟩
theorem w_brk (q : QS .brk env) : wO (fBrk env) QS := ⟨_, _, rfl, q⟩
theorem w_cnt (q : QS .cnt env) : wO (fCnt env) QS := ⟨_, _, rfl, q⟩
theorem w_expr (h : wO (fe env) (kS QS fun _ e => QS .nx e)) : wO (fExpr fe env) QS := by
  obtain ⟨r, e, he, q⟩ := h
  unfold fExpr
  rw [he]
  cases r with
  | exc C d => exact ⟨_, _, rfl, q⟩
  | _ => exact ⟨_, _, rfl, q⟩
theorem w_ret (h : wO (fe env) (kS QS fun r e => SRet g r e fun d e2 => QS (.ret d) e2)) : wO (fRet g fe env) QS := by
  obtain ⟨r, e, he, q⟩ := h
  unfold fRet
  rw [he]
  cases r with
  | exc C d => exact ⟨_, _, rfl, q⟩
  | _ => obtain ⟨d, e2, h1, q2⟩ := q; exact ⟨_, _, by simp only; rw [h1], q2⟩
theorem w_set (h : wO (fe env) (kS QS fun r e => SSet g i r e fun e3 => QS .nx e3)) : wO (fSet g i fe env) QS := by
  obtain ⟨r, e, he, q⟩ := h
  unfold fSet
  rw [he]
  cases r with
  | exc C d => exact ⟨_, _, rfl, q⟩
  | _ => obtain ⟨d, e2, e3, h1, rfl, q2⟩ := q; exact ⟨_, _, by simp only; rw [h1], q2⟩
theorem w_setOwn (h : wO (fe env) (kS QS fun r e => SSetOwn i r e fun e3 => QS .nx e3)) : wO (fSetOwn g i fe env) QS := by
  obtain ⟨r, e, he, q⟩ := h
  unfold fSetOwn
  rw [he]
  cases r with
  | exc C d => exact ⟨_, _, rfl, q⟩
  | slot i => obtain ⟨d, e3, h1, _⟩ := q; cases h1
  | val d => obtain ⟨d, e3, h1, h2, rfl, q2⟩ := q; cases h1; exact ⟨_, _, by simp only; rw [if_pos h2], q2⟩
theorem w_if (h : wO (ft env) (kTb (fun C d e => QS (.exc C d) e) fun b e => STwo b (wO (f1 e) QS) (wO (f2 e) QS))) : wO (fIf ft f1 f2 env) QS := by
  obtain ⟨r, e, he, q⟩ := h
  unfold fIf
  rw [he]
  cases r with
  | exc C d => exact ⟨_, _, rfl, q⟩
  | b x => cases x with
    | true => exact q.1 rfl
    | false => exact q.2 rfl
theorem w_raise {C : Addr} (h : wO (fe env) (kS QS fun r e => SRet g r e fun d e2 => QS (.exc C d) e2)) : wO (fRaise g C fe env) QS := by
  obtain ⟨r, e, he, q⟩ := h
  unfold fRaise
  rw [he]
  cases r with
  | exc C d => exact ⟨_, _, rfl, q⟩
  | _ => obtain ⟨d, e2, h1, q2⟩ := q; exact ⟨_, _, by simp only; rw [h1], q2⟩
theorem w_asgT {gt : GT} (h : wO (fe env) (kS QS fun r e => SAsg gt r e fun e2 => QS .nx e2)) : wO (fAsgT g gt fe env) QS := by
  obtain ⟨r, e, he, q⟩ := h
  unfold fAsgT
  rw [he]
  cases r with
  | exc C d => exact ⟨_, _, rfl, q⟩
  | slot i => obtain ⟨d, e3, h1, _⟩ := q; cases h1
  | val d => obtain ⟨d, e3, h1, h2, q2⟩ := q; cases h1; exact ⟨_, _, by simp only; rw [h2], q2⟩
theorem w_setIx {fi fv : EF} (h : wO (fv env) (kS QS fun r e => SIx1 g j r e fun d e1 => wO (fi e1) (kS QS fun ri e2 => SIx2 j d ri e2 fun e3 => QS .nx e3))) : wO (fSetIx g j fi fv env) QS := by
  obtain ⟨r, e, he, q⟩ := h
  unfold fSetIx
  rw [he]
  have fin : ∀ {d : D} {e1 : Env} {c0 : D}, e1[j]?.join = some c0 → wO (fi e1) (kS QS fun ri e2 => SIx2 j d ri e2 fun e3 => QS .nx e3) → wO (setIxK g j fi d e1) QS := fun {d e1 c0} h1 q => by
    obtain ⟨ri, e2, he2, q⟩ := q
    unfold setIxK
    rw [h1]
    simp only
    rw [he2]
    cases ri with
    | exc C d => exact ⟨_, _, rfl, q⟩
    | slot i => obtain ⟨di, c, c', e3, h2, _⟩ := q; cases h2
    | val di =>
      obtain ⟨di, c, c', e3, h2, h3, h4, rfl, q⟩ := q
      cases h2
      exact ⟨_, _, by simp only; rw [h3]; simp only; rw [h4], q⟩
  cases r with
  | exc C d => exact ⟨_, _, rfl, q⟩
  | _ =>
    obtain ⟨d, e1, c0, h1, h2, q2⟩ := q
    simp only
    rw [h1]
    exact fin h2 q2
theorem w_meth {gg : D → List D → Option (D × D)} {xs : List D} (h0 : env[j]?.join = some (.lst xs)) (h : wO (fs env) fun ra e => match ra with
    | .exc C d => QS (.exc C d) e
    | .vals rs => SMeth g j gg rs e fun e3 => QS .nx e3) : wO (fMeth g j gg fs env) QS := by
  obtain ⟨r, e, he, q⟩ := h
  unfold fMeth
  rw [h0]
  simp only
  rw [he]
  cases r with
  | exc C d => exact ⟨_, _, rfl, q⟩
  | vals rs =>
    obtain ⟨ds, e2, c, r, c', e3, h1, h2, h3, rfl, q⟩ := q
    exact ⟨_, _, by simp only; rw [h1]; simp only; rw [h2]; simp only; rw [h3], q⟩
theorem w_meth0 {gg : D → List D → Option (D × D)} {xs : List D} {r c' : D} {e3 : Env} (h0 : env[j]?.join = some (.lst xs)) (h1 : gg (.lst xs) [] = some (r, c')) (h2 : env.set j (some c') = e3) (q : Q (.val r) e3) : wO (fMeth0 j gg env) Q := by
  unfold fMeth0
  rw [h0]
  simp only
  rw [h1]
  subst h2
  exact ⟨_, _, rfl, q⟩
theorem w_setFld {C : Addr} {f : Str} (h : wO (fe env) (kS QS fun r e => SFld g j C f r e fun e3 => QS .nx e3)) : wO (fSetFld g j C f fe env) QS := by
  obtain ⟨r, e, he, q⟩ := h
  unfold fSetFld
  rw [he]
  cases r with
  | exc C d => exact ⟨_, _, rfl, q⟩
  | _ =>
    obtain ⟨d, e1, gs, e3, h1, h2, h3, rfl, q2⟩ := q
    exact ⟨_, _, by simp only; rw [h1]; simp only; rw [h2]; simp only; rw [if_pos ⟨trivial, h3⟩], q2⟩
/-! ### what is walked -/
theorem w_items {gg : D → Option (List D)} (h : wO (fe env) (kEI QI fun r e => SItems gg r e QI)) : wO (fItems gg fe env) QI := by
  obtain ⟨r, e, he, q⟩ := h
  unfold fItems
  rw [he]
  cases r with
  | exc C d => exact ⟨_, _, rfl, q⟩
  | slot i => obtain ⟨d, e3, h1, _⟩ := q; cases h1
  | val d => obtain ⟨d, e3, h1, h2, q2⟩ := q; cases h1; exact ⟨_, _, by simp only; rw [h2], q2⟩
theorem w_itemsA {gg : List D → Option (List D)} (h : wO (fs env) (kAI QI fun rs e => SItemsA gg rs e QI)) : wO (fItemsA gg fs env) QI := by
  obtain ⟨r, e, he, q⟩ := h
  unfold fItemsA
  rw [he]
  cases r with
  | exc C d => exact ⟨_, _, rfl, q⟩
  | vals rs => obtain ⟨ds, e', is, h1, h2, q2⟩ := q; exact ⟨_, _, by simp only; rw [h1]; simp only; rw [h2], q2⟩
theorem w_for {wl : List Nat} {fi : IF} {gt : GT} {body : SF} (h : wO (fi env) fun ri e => match ri with
    | .exc C d => QS (.exc C d) e
    | .items ds => wO (goFor wl gt body ds (wipeE e wl)) QS) : wO (fFor wl fi gt body env) QS := by
  obtain ⟨r, e, he, q⟩ := h
  unfold fFor
  rw [he]
  cases r with
  | exc C d => exact ⟨_, _, rfl, q⟩
  | items ds => exact q
/-- a loop by what holds ahead of each turn: I of the items left -/
theorem w_goFor {wl : List Nat} {gt : GT} {body : SF} (I : List D → Env → Prop) (hb : ∀ d ds e, I (d :: ds) e → ∃ e1, gt d e = some e1 ∧ wO (body e1) fun fl e2 => match fl with
    | .nx => I ds (wipeE e2 wl)
    | .cnt => I ds (wipeE e2 wl)
    | .brk => QS .nx e2
    | .ret d => QS (.ret d) e2
    | .exc C d => QS (.exc C d) e2) (hn : ∀ e, I [] e → QS .nx e) : ∀ (ds : List D) (e : Env), I ds e → wO (goFor wl gt body ds e) QS
  | [], e, h => ⟨_, _, rfl, hn e h⟩
  | d :: ds, e, h => by
    obtain ⟨e1, h1, fl, e2, h2, q⟩ := hb d ds e h
    unfold goFor
    rw [h1]
    simp only
    rw [h2]
    cases fl with
    | nx => exact w_goFor I hb hn ds _ q
    | cnt => exact w_goFor I hb hn ds _ q
    | brk => exact ⟨_, _, rfl, q⟩
    | ret d => exact ⟨_, _, rfl, q⟩
    | exc C d => exact ⟨_, _, rfl, q⟩
theorem w_while {wl : List Nat} {fu : Env → Nat} {t : TF} {body : SF} (I : Nat → Env → Prop) (h0 : I (fu env) (wipeE env wl)) (hb : ∀ n e, I n e → ∃ m, n = m + 1 ∧ wO (t e) fun r e1 => match r with
    | .exc C d => QS (.exc C d) e1
    | .b false => QS .nx e1
    | .b true => wO (body e1) fun fl e2 => match fl with
      | .nx => I m (wipeE e2 wl)
      | .cnt => I m (wipeE e2 wl)
      | .brk => QS .nx e2
      | .ret d => QS (.ret d) e2
      | .exc C d => QS (.exc C d) e2) : wO (fWhile wl fu t body env) QS := by
  have main : ∀ n e, I n e → wO (goWhile wl t body n e) QS := by
    intro n
    induction n with
    | zero => intro e h; obtain ⟨m, hm, _⟩ := hb 0 e h; cases hm
    | succ n ih =>
      intro e h
      obtain ⟨m, hm, r, e1, h1, q⟩ := hb _ e h
      cases hm
      unfold goWhile
      rw [h1]
      cases r with
      | exc C d => exact ⟨_, _, rfl, q⟩
      | b x =>
        cases x with
        | false => exact ⟨_, _, rfl, q⟩
        | true =>
          obtain ⟨fl, e2, h2, q⟩ := q
          simp only
          rw [h2]
          cases fl with
          | nx => exact ih _ q
          | cnt => exact ih _ q
          | brk => exact ⟨_, _, rfl, q⟩
          | ret d => exact ⟨_, _, rfl, q⟩
          | exc C d => exact ⟨_, _, rfl, q⟩
  exact main _ _ h0
/-! ### comprehensions -/
theorem w_comp {wl : List Nat} {fi : IF} {gt : GT} {tc : TF} (h : wO (fi env) fun ri e => match ri with
    | .exc C d => Q (.exc C d) e
    | .items ds => ∃ ys e2, goComp wl gt tc fe ds (wipeE e wl) = some (ys, e2) ∧ ys.length ≤ 16777216 ∧ Q (.val (.lst ys)) e2) : wO (fComp wl fi gt tc fe env) Q := by
  obtain ⟨r, e, he, q⟩ := h
  unfold fComp
  rw [he]
  cases r with
  | exc C d => exact ⟨_, _, rfl, q⟩
  | items ds => obtain ⟨ys, e2, h1, h2, q⟩ := q; exact ⟨_, _, by simp only; rw [h1]; simp only; rw [if_pos h2], q⟩
theorem goComp_cons {wl : List Nat} {gt : GT} {tc : TF} {d : D} {ds : List D} {e1 : Env} (h1 : gt d env = some e1) {P : List D × Env → Prop} (h : wO (tc e1) fun r e2 => match r with
    | .b true => wO (fe e2) fun y e3 => ∃ dy, y = .val dy ∧ ∃ ys e4, goComp wl gt tc fe ds (wipeE e3 wl) = some (ys, e4) ∧ P (dy :: ys, e4)
    | .b false => ∃ ys e4, goComp wl gt tc fe ds (wipeE e2 wl) = some (ys, e4) ∧ P (ys, e4)
    | _ => False) : ∃ ys e4, goComp wl gt tc fe (d :: ds) env = some (ys, e4) ∧ P (ys, e4) := by
  obtain ⟨r, e2, h2, q⟩ := h
  unfold goComp
  rw [h1]
  simp only
  rw [h2]
  cases r with
  | exc C d => exact q.elim
  | b x =>
    cases x with
    | false => obtain ⟨ys, e4, h3, q⟩ := q; exact ⟨ys, e4, h3, q⟩
    | true =>
      obtain ⟨y, e3, h3, dy, rfl, ys, e4, h4, q⟩ := q
      simp only
      rw [h3]
      simp only
      rw [h4]
      exact ⟨_, _, rfl, q⟩
/-- each item's own: what the test says of it, what the element is, the slots as at the start behind each turn -/
theorem goComp_map {wl : List Nat} {gt : GT} {tc : TF} {e0 : Env} (keep : D → Bool) (val : D → D) : ∀ (ds : List D), (∀ d ∈ ds, ∃ e1 e2, gt d e0 = some e1 ∧ tc e1 = some (.b (keep d), e2) ∧ (keep d = false → wipeE e2 wl = e0) ∧ (keep d = true → ∃ e3, fe e2 = some (.val (val d), e3) ∧ wipeE e3 wl = e0)) →
    goComp wl gt tc fe ds e0 = some ((ds.filter keep).map val, e0)
  | [], _ => rfl
  | d :: ds, h => by
    obtain ⟨e1, e2, h1, h2, h3, h4⟩ := h d List.mem_cons_self
    have ih := goComp_map keep val ds fun x hx => h x (List.mem_cons_of_mem _ hx)
    unfold goComp
    rw [h1]
    simp only
    rw [h2]
    cases k : keep d with
    | false =>
      simp only
      rw [h3 k, ih, List.filter_cons_of_neg (by simp [k])]
    | true =>
      obtain ⟨e3, h5, h6⟩ := h4 k
      simp only
      rw [h5]
      simp only
      rw [h6, ih, List.filter_cons_of_pos (by simp [k])]
      rfl
theorem w_yes (q : QT (.b true) env) : wO (fYes env) QT := ⟨_, _, rfl, q⟩
/-! ### slices, properties, methods -/
theorem w_slice {fl fh : Option EF} (h : wO (fa env) (kE Q fun r e1 => wO (fPart fl e1) fun l e2 => match l with
    | .exc C d => Q (.exc C d) e2
    | .none' => wO (fPart fh e2) fun u e3 => match u with
      | .exc C d => Q (.exc C d) e3
      | .none' => SSl r none none e3 Q
      | .int b => SSl r none (some b) e3 Q
    | .int a => wO (fPart fh e2) fun u e3 => match u with
      | .exc C d => Q (.exc C d) e3
      | .none' => SSl r (some a) none e3 Q
      | .int b => SSl r (some a) (some b) e3 Q)) : wO (fSlice fa fl fh env) Q := by
  unfold fSlice
  refine w_bind (h.mono fun r e q => ?_)
  have main : (wO (fPart fl e) fun l e2 => match l with
    | .exc C d => Q (.exc C d) e2
    | .none' => wO (fPart fh e2) fun u e3 => match u with
      | .exc C d => Q (.exc C d) e3
      | .none' => SSl r none none e3 Q
      | .int b => SSl r none (some b) e3 Q
    | .int a => wO (fPart fh e2) fun u e3 => match u with
      | .exc C d => Q (.exc C d) e3
      | .none' => SSl r (some a) none e3 Q
      | .int b => SSl r (some a) (some b) e3 Q) → wO (match fPart fl e with
    | some (.exc C d, e2) => some (R1.exc C d, e2)
    | some (l, e2) => match fPart fh e2 with
      | some (.exc C d, e3) => some (.exc C d, e3)
      | some (h, e3) => match res r e3 with
        | some d => match gSl l.opt h.opt d with
          | some d' => some (.val d', e3)
          | none => none
        | none => none
      | none => none
    | none => none) Q := fun q => by
    obtain ⟨l, e2, h1, q⟩ := q
    rw [h1]
    cases l with
    | exc C d => exact ⟨_, _, rfl, q⟩
    | none' =>
      obtain ⟨u, e3, h2, q⟩ := q
      simp only
      rw [h2]
      cases u with
      | exc C d => exact ⟨_, _, rfl, q⟩
      | none' => obtain ⟨d, d', h3, h4, q⟩ := q; simp only; rw [h3]; simp only; exact ⟨.val d', e3, by rw [show gSl RO1.none'.opt RO1.none'.opt d = some d' from h4], q⟩
      | int b => obtain ⟨d, d', h3, h4, q⟩ := q; simp only; rw [h3]; simp only; exact ⟨.val d', e3, by rw [show gSl RO1.none'.opt (RO1.int b).opt d = some d' from h4], q⟩
    | int a =>
      obtain ⟨u, e3, h2, q⟩ := q
      simp only
      rw [h2]
      cases u with
      | exc C d => exact ⟨_, _, rfl, q⟩
      | none' => obtain ⟨d, d', h3, h4, q⟩ := q; simp only; rw [h3]; simp only; exact ⟨.val d', e3, by rw [show gSl (RO1.int a).opt RO1.none'.opt d = some d' from h4], q⟩
      | int b => obtain ⟨d, d', h3, h4, q⟩ := q; simp only; rw [h3]; simp only; exact ⟨.val d', e3, by rw [show gSl (RO1.int a).opt (RO1.int b).opt d = some d' from h4], q⟩
  cases r with
  | exc C d => exact q
  | val d => exact main q
  | slot d => exact main q
theorem w_part0 {QP : RO1 → Env → Prop} (q : QP .none' env) : wO (fPart none env) QP := ⟨_, _, rfl, q⟩
theorem w_part1 {QP : RO1 → Env → Prop} (h : wO (fe env) fun r e => match r with
    | .exc C d => QP (.exc C d) e
    | r => SInt r fun i => QP (.int i) e) : wO (fPart (some fe) env) QP := by
  obtain ⟨r, e, he, q⟩ := h
  unfold fPart
  simp only
  rw [he]
  cases r with
  | exc C d => exact ⟨_, _, rfl, q⟩
  | val d => obtain ⟨i, h1, q⟩ := q; cases h1; exact ⟨_, _, rfl, q⟩
  | slot d => obtain ⟨i, h1, q⟩ := q; cases h1
theorem w_prop {C : Addr} {tn : Bool} {F : GF} (h : wO (fe env) (kE Q fun r e => SProp C F r e fun ro os => callOk tn [] [r] os ro = true ∧ SVal (r1Of ro) fun d => Q (.val d) e)) : wO (fProp C tn F fe env) Q := by
  obtain ⟨r, e, he, q⟩ := h
  unfold fProp
  rw [he]
  have main : (SProp C F r e fun ro os => callOk tn [] [r] os ro = true ∧ SVal (r1Of ro) fun d => Q (.val d) e) → wO (if isIns C (res r e) = true then (match callK tn [] F [r] e with
    | some (.val d, e2) => some (R1.val d, e2)
    | _ => none) else none) Q := fun q => by
    obtain ⟨gs, h1, h2, h3⟩ := q
    rw [if_pos (by rw [h1]; simp [isIns])]
    obtain ⟨r1, e1, h4, c⟩ : wO (callK tn [] F [r] e) fun r1 e1 => ∃ d, r1 = .val d ∧ Q (.val d) e ∧ e1 = e := by
      refine w_callK (ds := [.ins C gs]) (by unfold ress; rw [h1]; rfl) h2 (h3.mono fun ro os c => ⟨c.1, _, rfl, ?_⟩)
      obtain ⟨d, hr, q⟩ := c.2
      exact ⟨d, hr, q, rfl⟩
    obtain ⟨d, rfl, q, rfl⟩ := c
    rw [h4]
    exact ⟨_, _, rfl, q⟩
  cases r with
  | exc C d => exact ⟨_, _, rfl, q⟩
  | val d => exact main q
  | slot d => exact main q
theorem w_methD {C : Addr} {m : Str} {tn : Bool} {io : List Nat} {F : GF} {fo : EF} (h : wO (fo env) (kE Q fun r e => SRec C m r e (wO (fs e) (kAE Q fun rs e2 => SCall F io (r :: rs) e2 fun ro os => callOk tn io (r :: rs) os ro = true ∧ SPut (r :: rs) io os e2 fun e' => Q (r1Of ro) e')))) : wO (fMethD C m tn io F fo fs env) Q := by
  obtain ⟨r, e, he, q⟩ := h
  unfold fMethD
  rw [he]
  have main : (SRec C m r e (wO (fs e) (kAE Q fun rs e2 => SCall F io (r :: rs) e2 fun ro os => callOk tn io (r :: rs) os ro = true ∧ SPut (r :: rs) io os e2 fun e' => Q (r1Of ro) e'))) → wO (if insNo C m (res r e) = true then (match fs e with
    | some (.exc C d, e2) => some (R1.exc C d, e2)
    | some (.vals rs, e2) => callK tn io F (r :: rs) e2
    | none => none) else none) Q := fun q => by
    obtain ⟨gs, h1, h2, ra, e2, h3, q⟩ := q
    rw [if_pos (by rw [h1]; simp only [insNo, decide_eq_true (show C = C from rfl), Bool.true_and]; exact h2), h3]
    cases ra with
    | exc C d => exact ⟨_, _, rfl, q⟩
    | vals rs => obtain ⟨ds, h4, h5, h6⟩ := q; exact w_callK h4 h5 h6
  cases r with
  | exc C d => exact ⟨_, _, rfl, q⟩
  | val d => exact main q
  | slot d => exact main q
/-! ### try -/
theorem w_try {ca : Nat → Addr} {n cj : Nat} {fb : SF} {fu : Nat → D → SF} (h : wO (fb env) fun fl e => match fl with
    | .exc C d => SCatch ca n cj C (fun i => j < e.length ∧ wO (fu i d (e.set j none)) fun fl2 e2 => match fl2 with
      | .exc _ _ => False
      | fl2 => QS fl2 (e2.set j none)) (QS (.exc C d) e)
    | fl => QS fl e) : wO (fTry ca n j cj fb fu env) QS := by
  obtain ⟨fl, e, he, q⟩ := h
  unfold fTry
  rw [he]
  cases fl with
  | exc C d =>
    obtain ⟨i, h1, q1, q2⟩ := q
    simp only
    rw [h1]
    simp only
    cases c : (i == cj || cj == 0) with
    | false =>
      rw [if_neg (by simp)]
      exact ⟨_, _, rfl, q2 c⟩
    | true =>
      obtain ⟨h2, fl2, e2, h3, q⟩ := q1 c
      rw [if_pos rfl, if_pos h2, h3]
      cases fl2 with
      | exc C d => exact q.elim
      | _ => exact ⟨_, _, rfl, q⟩
  | _ => exact ⟨_, _, rfl, q⟩
theorem w_xval (q : Q (.val d) env) : wO (fXval d env) Q := ⟨_, _, rfl, q⟩
theorem w_isX {ca : Nat → Addr} {n i : Nat} (h : wO (fc env) (kE Q fun r e => SIsX ca n i r e Q)) : wO (fIsX ca n i fc env) Q := by
  obtain ⟨r, e, he, q⟩ := h
  unfold fIsX
  rw [he]
  cases r with
  | exc C d => exact ⟨_, _, rfl, q⟩
  | val d => obtain ⟨c, b, h1, h2, q⟩ := q; cases h1; exact ⟨_, _, by simp only; rw [h2], q⟩
  | slot d => obtain ⟨c, b, h1, h2, q⟩ := q; cases h1
/-! ### parallel assignment -/
def wPar (g : Cfg) : List (Bool × EF) → Env → (RA → Env → Prop) → Prop
  | [], env, Q => Q (.vals []) env
  | (own, f) :: fs, env, Q => wO (f env) (kEA Q fun r e => SPar own g r e fun d e2 => wPar g fs e2 (kAA Q fun rs e3 => Q (.vals (.val d :: rs)) e3))
theorem wPar_ok : ∀ {ps : List (Bool × EF)} {env : Env} {Q : RA → Env → Prop}, wPar g ps env Q → wO (fPar g ps env) Q
  | [], env, Q, h => ⟨_, _, rfl, h⟩
  | (own, f) :: ps, env, Q, h => by
    obtain ⟨r, e, he, q⟩ := h
    unfold fPar
    rw [he]
    cases r with
    | exc C d => exact ⟨_, _, rfl, q⟩
    | _ =>
      obtain ⟨d, e2, h1, q⟩ := q
      obtain ⟨ra, e3, h2, q⟩ := wPar_ok q
      simp only at h1 ⊢
      rw [h1]
      simp only
      rw [h2]
      cases ra with
      | exc C d => exact ⟨_, _, rfl, q⟩
      | vals rs => exact ⟨_, _, rfl, q⟩
theorem w_pars {is : List Nat} {ps : List (Bool × EF)} (h : wPar g ps env fun ra e => match ra with
    | .exc C d => QS (.exc C d) e
    | .vals rs => SEnv is rs e fun e3 => QS .nx e3) : wO (fPars g is ps env) QS := by
  obtain ⟨ra, e, he, q⟩ := wPar_ok h
  unfold fPars
  rw [he]
  cases ra with
  | exc C d => exact ⟨_, _, rfl, q⟩
  | vals rs => obtain ⟨h1, e3, rfl, q⟩ := q; exact ⟨_, _, by simp only; rw [if_pos h1], q⟩
/-! ### defs -/
theorem w_run {n m : Nat} {io : List Nat} {sf : SF} {ds : List D} {P : RO → List D → Prop} (hn : ds.length = n) (h : wO (sf (ds.map some ++ List.replicate (m - n) none)) fun fl e => match fl with
    | .nx => SIo e io fun os => P (.val .non) os
    | .ret d => SIo e io fun os => P (.val d) os
    | .exc C d => SIo e io fun os => P (.exc C d) os
    | _ => False) : wO (runD n m io sf ds) P := by
  obtain ⟨fl, e, he, q⟩ := h
  unfold runD
  rw [if_pos hn, he]
  cases fl with
  | nx => obtain ⟨os, h1, q⟩ := q; exact ⟨_, os, by simp only; rw [h1]; rfl, q⟩
  | ret d => obtain ⟨os, h1, q⟩ := q; exact ⟨_, os, by simp only; rw [h1]; rfl, q⟩
  | exc C d => obtain ⟨os, h1, q⟩ := q; exact ⟨_, os, by simp only; rw [h1]; rfl, q⟩
  | brk => exact q.elim
  | cnt => exact q.elim
end
end GR
/-! IB -/
set_option linter.all false
set_option maxRecDepth 100000
namespace GR
open PySem L2
section
variable {env e e1 e2 e3 : Env} {Q : R1 → Env → Prop} {QT : RT → Env → Prop} {QI : RI → Env → Prop} {k : D → Env → Prop} {kd : D → Prop} {ke : Env → Prop} {P : RO → List D → Prop} {t f X : Prop} {g : Cfg} {i j : Nat} {d da db dc c c' : D} {ds os : List D} {r ra rb : R1} {rs : List R1} {C : Addr} {io is : List Nat} {F : GF} {b : Bool}
theorem s_op2 {gg : D → D → Option D} (h1 : res ra e = some da) (h2 : res rb e = some db) (h3 : gg da db = some d) (q : Q (.val d) e) : SOp2 gg ra rb e Q := ⟨_, _, _, h1, h2, h3, q⟩
theorem s_op1 {gg : D → Option D} (h1 : res ra e = some da) (h3 : gg da = some d) (q : Q (.val d) e) : SOp1 gg ra e Q := ⟨_, _, h1, h3, q⟩
theorem s_new {gg : List D → Option D} (h1 : mvs g rs e = some (ds, e2)) (h3 : gg ds = some d) (q : Q (.val d) e2) : SNew g gg rs e Q := ⟨_, _, _, h1, h3, q⟩
theorem s_app {gg : List D → Option D} (h1 : ress rs e = some ds) (h3 : gg ds = some d) (q : Q (.val d) e) : SApp gg rs e Q := ⟨_, _, h1, h3, q⟩
theorem s_truth (h1 : res r e = some d) (h3 : d.truth = some b) (q : QT (.b b) e) : STruth r e QT := ⟨_, _, h1, h3, q⟩
theorem s_bool (q : QT (.b b) e) : SBool (.val (.bl b)) e QT := ⟨_, rfl, q⟩
theorem s_twoE {k : Bool → Prop} (q : k b) : STwoE (.val (.bl b)) k := ⟨_, rfl, q⟩
theorem s_ret (h1 : mv g r e = some (d, e2)) (q : k d e2) : SRet g r e k := ⟨_, _, h1, q⟩
theorem s_set (h1 : mv g r e = some (d, e2)) (h2 : e2.set i (some d) = e3) (q : ke e3) : SSet g i r e ke := ⟨_, _, _, h1, h2, q⟩
theorem s_setOwn (h1 : (isBox d && decide (i < e.length)) = true) (h2 : e.set i (some d) = e3) (q : ke e3) : SSetOwn i (.val d) e ke := ⟨_, _, rfl, h1, h2, q⟩
theorem s_asg {gt : GT} (h1 : gt d e = some e2) (q : ke e2) : SAsg gt (.val d) e ke := ⟨_, _, rfl, h1, q⟩
theorem s_ix1 (h1 : mv g r e = some (d, e1)) (h2 : e1[j]?.join = some c) (q : k d e1) : SIx1 g j r e k := ⟨_, _, _, h1, h2, q⟩
theorem s_ix2 {di : D} (h1 : e2[j]?.join = some c) (h2 : gPut c di d = some c') (h3 : e2.set j (some c') = e3) (q : ke e3) : SIx2 j d (.val di) e2 ke := ⟨_, _, _, _, rfl, h1, h2, h3, q⟩
theorem s_meth {gg : D → List D → Option (D × D)} (h1 : mvs g rs e = some (ds, e2)) (h2 : e2[j]?.join = some c) (h3 : gg c ds = some (d, c')) (h4 : e2.set j (some c') = e3) (q : ke e3) : SMeth g j gg rs e ke := ⟨_, _, _, _, _, _, h1, h2, h3, h4, q⟩
theorem s_fld {fn : Str} {gs : List (Str × D)} (h1 : mv g r e = some (d, e1)) (h2 : e1[j]?.join = some (.ins C gs)) (h3 : gs.length < 1000) (h4 : e1.set j (some (.ins C (putFD fn d gs))) = e3) (q : ke e3) : SFld g j C fn r e ke := ⟨_, _, _, _, h1, h2, h3, h4, q⟩
theorem s_items {gg : D → Option (List D)} (h1 : gg d = some ds) (q : QI (.items ds) e) : SItems gg (.val d) e QI := ⟨_, _, rfl, h1, q⟩
theorem s_itemsA {gg : List D → Option (List D)} {its : List D} (h1 : mvs ⟨[], [], [], []⟩ rs [] = some (ds, e2)) (h2 : gg ds = some its) (q : QI (.items its) e) : SItemsA gg rs e QI := ⟨_, _, _, h1, h2, q⟩
theorem s_sl {lo hi : Option Int} (h1 : res r e = some d) (h2 : gSl lo hi d = some c) (q : Q (.val c) e) : SSl r lo hi e Q := ⟨_, _, h1, h2, q⟩
theorem s_isX {ca : Nat → Addr} {n : Nat} (h1 : isAny ca n i d = some b) (q : Q (.val (.bl b)) e) : SIsX ca n i (.val d) e Q := ⟨_, _, rfl, h1, q⟩
theorem s_io {kl : List D → Prop} (h1 : ioOf e io = some os) (q : kl os) : SIo e io kl := ⟨_, h1, q⟩
theorem s_put (h1 : putIo rs io os e = e2) (q : ke e2) : SPut rs io os e ke := ⟨_, h1, q⟩
theorem s_val (q : kd d) : SVal (.val d) kd := ⟨_, rfl, q⟩
theorem s_ch1 {gg : D → D → Option D} {k : D → Bool → Prop} (h1 : gg da db = some (.bl b)) (q : k db b) : SCh1 gg da (.val db) k := ⟨_, _, rfl, h1, q⟩
theorem s_ch2 {gg : D → D → Option D} (h1 : gg db dc = some d) (q : kd d) : SCh2 gg db (.val dc) kd := ⟨_, _, rfl, h1, q⟩
theorem s_call (h1 : ress rs e = some ds) (h2 : argsFit io rs = true) (q : wO (F ds) P) : SCall F io rs e P := ⟨_, h1, h2, q⟩
theorem s_mk (h1 : ress rs e = some ds) (q : wO (F (.ins C [] :: ds)) P) : SMk C F rs e P := ⟨_, h1, q⟩
theorem s_rec {m : Str} {gs : List (Str × D)} (h1 : res r e = some (.ins C gs)) (h2 : (gs.lookup m).isNone = true) (q : X) : SRec C m r e X := ⟨_, h1, h2, q⟩
theorem s_prop {gs : List (Str × D)} (h1 : res r e = some (.ins C gs)) (h2 : argsFit [] [r] = true) (q : wO (F [.ins C gs]) P) : SProp C F r e P := ⟨_, h1, h2, q⟩
theorem s_env (h1 : (is.all fun i => decide (i < e.length)) = true) (h2 : setsD is rs e = e2) (q : ke e2) : SEnv is rs e ke := ⟨h1, _, h2, q⟩
theorem s_parF (h1 : mv g r e = some (d, e2)) (q : k d e2) : SPar false g r e k := ⟨_, _, h1, q⟩
theorem s_parT (h1 : isBox d = true) (q : k d e) : SPar true g (.val d) e k := ⟨d, e, by simp only [if_true]; exact if_pos h1, q⟩
theorem s_int {ki : Int → Prop} {z : Int} (q : ki z) : SInt (.val (.int z)) ki := ⟨_, rfl, q⟩
theorem s_twoT (q : t) : STwo true t f := ⟨fun _ => q, fun h => Bool.noConfusion h⟩
theorem s_twoF (q : f) : STwo false t f := ⟨fun h => Bool.noConfusion h, fun _ => q⟩
theorem s_two (q1 : b = true → t) (q2 : b = false → f) : STwo b t f := ⟨q1, q2⟩
theorem s_twoD {p : Prop} {_ : Decidable p} (q1 : p → t) (q2 : ¬ p → f) : STwo (decide p) t f := ⟨fun h => q1 (of_decide_eq_true h), fun h => q2 (of_decide_eq_false h)⟩
theorem s_twoDt {p : Prop} {_ : Decidable p} (hp : p) (q1 : t) : STwo (decide p) t f := ⟨fun h => q1, fun h => absurd hp (of_decide_eq_false h)⟩
theorem s_twoDf {p : Prop} {_ : Decidable p} (hp : ¬ p) (q1 : f) : STwo (decide p) t f := ⟨fun h => absurd (of_decide_eq_true h) hp, fun _ => q1⟩
theorem s_twoN (q : STwo b f t) : STwo (!b) t f := ⟨fun h => q.2 (by simpa using h), fun h => q.1 (by simpa using h)⟩
theorem s_twoA {p q : Bool} (h : STwo p (STwo q t f) f) : STwo (p && q) t f := by
  cases p with
  | true => exact h.1 rfl
  | false => exact ⟨fun z => Bool.noConfusion z, fun _ => h.2 rfl⟩
theorem s_ok {tn : Bool} {ro : RO} (h1 : callOk tn io rs os ro = true) (q : X) : callOk tn io rs os ro = true ∧ X := ⟨h1, q⟩
theorem s_made {gs : List (Str × D)} (h1 : ((noLent [] 0 rs || D.imms (gs.map Prod.snd)) && decide (slotsOf rs).Nodup) = true) (q : X) : makeOk C rs [.ins C gs] (.val .non) ∧ X := ⟨⟨rfl, _, rfl, h1⟩, q⟩
theorem s_madeX {o : D} {C2 : Addr} (h1 : ((noLent [] 0 rs || d.imm) && decide (slotsOf rs).Nodup) = true) (q : X) : makeOk C rs [o] (.exc C2 d) ∧ X := ⟨⟨⟨_, rfl⟩, h1⟩, q⟩
theorem s_len {n : Nat} (h1 : rs.length = n) (q : X) : rs.length = n ∧ X := ⟨h1, q⟩
theorem w_runE {n m : Nat} {sf : SF} (hn : ds.length = n) (he : ds.map some ++ List.replicate (m - n) none = env) (h : wO (sf env) fun fl e => match fl with
    | .nx => SIo e io fun os => P (.val .non) os
    | .ret d => SIo e io fun os => P (.val d) os
    | .exc C d => SIo e io fun os => P (.exc C d) os
    | _ => False) : wO (runD n m io sf ds) P := by
  subst he
  exact w_run hn h
theorem wParN {Q : RA → Env → Prop} (q : Q (.vals []) env) : wPar g [] env Q := q
theorem wParC {Q : RA → Env → Prop} {own : Bool} {fe : EF} {ps : List (Bool × EF)} (h : wO (fe env) (kEA Q fun r e => SPar own g r e fun d e2 => wPar g ps e2 (kAA Q fun rs e3 => Q (.vals (.val d :: rs)) e3))) : wPar g ((own, fe) :: ps) env Q := h
end
end GR
namespace GR
open PySem L2
section
variable {e e1 e2 e3 : Env} {Q : R1 → Env → Prop} {QT : RT → Env → Prop} {ds : List D} {r ra rb : R1} {d : D}
/-- an item of a list or tuple at a place that lies in it -/
theorem s_ixL {i : Int} (h1 : res ra e = some (.lst ds)) (h2 : res rb e = some (.int i)) (h3 : 0 ≤ i) (h4 : i < ds.length) (q : ∀ d, ds[i.toNat]? = some d → Q (.val d) e) : SOp2 gIx ra rb e Q := by
  have h5 : i.toNat < ds.length := by omega
  refine ⟨_, _, ds[i.toNat], h1, h2, ?_, q _ (List.getElem?_eq_getElem h5)⟩
  simp only [gIx, atI, ixN]
  rw [if_pos h3, if_pos (by omega)]
  simp [List.getElem?_eq_getElem h5]
theorem s_ixA {i : Int} (h1 : res ra e = some (.lst ds)) (h2 : res rb e = some (.int i)) (h3 : 0 ≤ i) (h4 : i < ds.length) (q : ∀ d ∈ ds, Q (.val d) e) : SOp2 gIx ra rb e Q :=
  s_ixL h1 h2 h3 h4 fun d hd => q d (List.mem_of_getElem? hd)
end
end GR
namespace GR
open PySem L2
section
variable {env e : Env} {QS : Fl → Env → Prop} {f1 f2 : SF} {ft : TF}
/-- both ways meet the same -/
theorem w_ifM (M1 M2 : Env → Prop) (h : wO (ft env) fun r e => (r = .b true ∧ M1 e) ∨ (r = .b false ∧ M2 e)) (h1 : ∀ e, M1 e → wO (f1 e) QS) (h2 : ∀ e, M2 e → wO (f2 e) QS) : wO (fIf ft f1 f2 env) QS := by
  obtain ⟨r, e, he, q⟩ := h
  refine w_if ⟨r, e, he, ?_⟩
  rcases q with ⟨rfl, m⟩ | ⟨rfl, m⟩
  · exact ⟨fun _ => h1 e m, fun z => Bool.noConfusion z⟩
  · exact ⟨fun z => Bool.noConfusion z, fun _ => h2 e m⟩
theorem w_seqM (M : Env → Prop) (h : wO (f1 env) fun fl e => fl = .nx ∧ M e) (h2 : ∀ e, M e → wO (f2 e) QS) : wO (fSeq f1 f2 env) QS := by
  obtain ⟨r, e, he, rfl, m⟩ := h
  exact w_seq ⟨_, e, he, h2 e m⟩
theorem rngD_nat (m : Nat) : rngD 0 m = (List.range' 0 m).map fun i => D.int (i : Nat) := by
  unfold rngD
  rw [List.range_eq_range']
  apply List.map_congr_left
  intro k _
  simp
/-- a loop over 0 .. m - 1, by what holds ahead of turn s -/
theorem w_goRng {wl : List Nat} {gt : GT} {body : SF} {m : Nat} (I : Nat → Env → Prop) (h0 : I 0 env) (hb : ∀ s e, s < m → I s e → ∃ e1, gt (.int (s : Nat)) e = some e1 ∧ wO (body e1) fun fl e2 => match fl with
    | .nx => I (s + 1) (wipeE e2 wl)
    | .cnt => I (s + 1) (wipeE e2 wl)
    | .brk => QS .nx e2
    | .ret d => QS (.ret d) e2
    | .exc C d => QS (.exc C d) e2) (hn : ∀ e, I m e → QS .nx e) : wO (goFor wl gt body (rngD 0 m) env) QS := by
  rw [rngD_nat]
  refine w_goFor (fun ds e => ∃ s k, s + k = m ∧ ds = (List.range' s k).map (fun i => D.int (i : Nat)) ∧ I s e) ?_ ?_ _ _ ⟨0, m, by omega, rfl, h0⟩
  · rintro d ds e ⟨s, k, hk, hd, hI⟩
    cases k with
    | zero => simp at hd
    | succ k =>
      rw [List.range'_succ, List.map_cons] at hd
      injection hd with hd1 hd2
      subst hd1 hd2
      obtain ⟨e1, h1, h2⟩ := hb s e (by omega) hI
      refine ⟨e1, h1, h2.mono fun fl e2 q => ?_⟩
      cases fl with
      | nx => exact ⟨s + 1, k, by omega, rfl, q⟩
      | cnt => exact ⟨s + 1, k, by omega, rfl, q⟩
      | _ => exact q
  · rintro e ⟨s, k, hk, hd, hI⟩
    cases k with
    | zero => exact hn e (by rw [← hk]; exact hI)
    | succ k => simp [List.range'_succ] at hd
theorem rng1_ok {z : Int} (h : z < 1000000000) (h2 : -1000000000 < z) : rng1 [.int z] = some (rngD 0 z.toNat) := by
  have h1 : -(4611686018427387904 : Int) ≤ z ∧ z < 4611686018427387904 := ⟨by omega, by omega⟩
  have e : (2 : Int) ^ 62 = 4611686018427387904 := by decide
  unfold rng1
  simp only [e]
  rw [if_pos h1]
end
end GR
/-! IC -/
set_option linter.all false
set_option maxRecDepth 100000
/-! repr's size, equality of plain data, items. -/
namespace GR
open PySem L2
mutual
/-- ints below 10 ^ 60, texts of signs -/
def D.sm : D → Bool
  | .int i => decide (i.natAbs < 10 ^ 60)
  | .str x => PyData.strOk x
  | .non | .bl _ => true
  | .tup ds | .lst ds => D.sms ds
  | _ => false
def D.sms : List D → Bool
  | [] => true
  | d :: ds => d.sm && D.sms ds
end
mutual
/-- repr is not longer than this -/
def D.cap : D → Nat
  | .int _ => 61
  | .str x => 10 * x.length + 2
  | .tup ds | .lst ds => D.caps ds + 3
  | _ => 5
def D.caps : List D → Nat
  | [] => 0
  | d :: ds => d.cap + 2 + D.caps ds
end
theorem log_pow10 {i : Int} (h : i.natAbs < 10 ^ 60) : i.natAbs.log2 < 1920 := by
  by_cases z : i.natAbs = 0
  · rw [z]; decide
  · exact (Nat.log2_lt z).mpr (Nat.lt_of_lt_of_le h (Nat.le_trans (show 10 ^ 60 ≤ 2 ^ 200 by decide) (Nat.pow_le_pow_right (by decide) (by decide))))
theorem strOk_lt {x : Str} (h : PyData.strOk x = true) : ∀ c ∈ x.cps.toList, c < 16 ^ 8 := by
  have h0 : x.cps.all (· < 0x110000) = true := h
  intro c hc
  have := (Array.all_eq_true_iff_forall_mem.mp h0) c (Array.mem_toList_iff.mp hc)
  have e : c < 0x110000 := by simpa using this
  have e2 : (16 : Nat) ^ 8 = 4294967296 := by decide
  omega
mutual
theorem sm_show : ∀ d : D, d.sm = true → d.py.showable = true ∧ d.py.shown.length ≤ d.cap
  | .non, _ => ⟨rfl, by decide⟩
  | .bl b, _ => ⟨rfl, by cases b <;> decide⟩
  | .int i, h => by
    have h : i.natAbs < 10 ^ 60 := by simpa [D.sm] using h
    refine ⟨by simp only [D.py, PyData.showable]; exact decide_eq_true (log_pow10 h), ?_⟩
    have e := int_text_length_le10 (k := 60) (by decide) h
    show (Str.ofString (toString i)).length ≤ 61
    rw [ofString_length]; exact e
  | .str x, h => by
    have h : PyData.strOk x = true := by simpa [D.sm] using h
    refine ⟨rfl, ?_⟩
    exact StrLaws.reprText_len x (strOk_lt h)
  | .tup ds, h => by
    have h : D.sms ds = true := by simpa [D.sm] using h
    obtain ⟨h1, h2⟩ := sm_shows ds h
    refine ⟨by simpa [D.py, PyData.showable] using h1, ?_⟩
    have h3 := tupleText_len_le (PyData.shownAll (D.pys ds))
    simp only [D.py, PyData.shown, D.cap]
    omega
  | .lst ds, h => by
    have h : D.sms ds = true := by simpa [D.sm] using h
    obtain ⟨h1, h2⟩ := sm_shows ds h
    refine ⟨by simpa [D.py, PyData.showable] using h1, ?_⟩
    have h3 := listText_len_le (PyData.shownAll (D.pys ds))
    simp only [D.py, PyData.shown, D.cap]
    omega
  | .ty _, h => by simp [D.sm] at h
  | .gl _, h => by simp [D.sm] at h
  | .frl _, h => by simp [D.sm] at h
  | .dK _, h => by simp [D.sm] at h
  | .ins _ _, h => by simp [D.sm] at h
  | .exc _ _, h => by simp [D.sm] at h
theorem sm_shows : ∀ ds : List D, D.sms ds = true → PyData.showableAll (D.pys ds) = true ∧ ((PyData.shownAll (D.pys ds)).map (·.length)).sum + 2 * (PyData.shownAll (D.pys ds)).length ≤ D.caps ds
  | [], _ => ⟨rfl, by simp [D.pys, PyData.shownAll, D.caps]⟩
  | d :: ds, h => by
    have h : d.sm = true ∧ D.sms ds = true := by simpa [D.sms] using h
    obtain ⟨a1, a2⟩ := sm_show d h.1
    obtain ⟨b1, b2⟩ := sm_shows ds h.2
    refine ⟨by simp [D.pys, PyData.showableAll, a1, b1], ?_⟩
    simp only [D.pys, PyData.shownAll, D.caps, List.map_cons, List.sum_cons, List.length_cons]
    omega
end
theorem gRepr_ok {d : D} (h1 : isSeqD d = true) (h2 : d.dat 20 = true) (h3 : d.sm = true) (h4 : d.cap ≤ 16777216) : gRepr [d] = some (.str d.py.shown) := by
  obtain ⟨a, b⟩ := sm_show d h3
  have e : (isSeqD d && d.dat 20 && d.py.showable && decide (d.py.shown.length ≤ 16777216)) = true := by
    rw [h1, h2, a, decide_eq_true (Nat.le_trans b h4)]; rfl
  unfold gRepr
  exact if_pos e
theorem sms_map {α : Type} (f : α → D) (l : List α) (h : ∀ x ∈ l, (f x).sm = true) : D.sms (l.map f) = true := by
  induction l with
  | nil => rfl
  | cons x l ih =>
    simp only [List.map_cons, D.sms, Bool.and_eq_true]
    exact ⟨h x List.mem_cons_self, ih fun y hy => h y (List.mem_cons_of_mem _ hy)⟩
theorem caps_map {α : Type} (f : α → D) (l : List α) {c : Nat} (h : ∀ x ∈ l, (f x).cap ≤ c) : D.caps (l.map f) ≤ l.length * (c + 2) := by
  induction l with
  | nil => simp [D.caps]
  | cons x l ih =>
    have a := h x List.mem_cons_self
    have b := ih fun y hy => h y (List.mem_cons_of_mem _ hy)
    simp only [List.map_cons, D.caps, List.length_cons, Nat.succ_mul]
    omega
theorem dats_map {α : Type} (f : α → D) (l : List α) {n : Nat} (h : ∀ x ∈ l, (f x).dat n = true) : (l.map f).all (D.dat n) = true := by
  rw [List.all_map, List.all_eq_true]
  exact h
/-! ### equality -/
mutual
/-- no truth values: a thing equals what it is alone -/
def D.pl : D → Bool
  | .int _ | .str _ | .non => true
  | .tup ds | .lst ds => D.pls ds
  | _ => false
def D.pls : List D → Bool
  | [] => true
  | d :: ds => d.pl && D.pls ds
end
mutual
theorem eqv_pl : ∀ a b : D, a.pl = true → b.pl = true → (PyData.eqv a.py b.py = true ↔ a = b)
  | .non, .non, _, _ => by simp [D.py, PyData.eqv]
  | .int i, .int j, _, _ => by simp [D.py, PyData.eqv]
  | .str x, .str y, _, _ => by simp [D.py, PyData.eqv]
  | .tup x, .tup y, h1, h2 => by
    have := eqvs_pl x y (by simpa [D.pl] using h1) (by simpa [D.pl] using h2)
    simpa [D.py, PyData.eqv] using this
  | .lst x, .lst y, h1, h2 => by
    have := eqvs_pl x y (by simpa [D.pl] using h1) (by simpa [D.pl] using h2)
    simpa [D.py, PyData.eqv] using this
  | .non, .int _, _, _ | .non, .str _, _, _ | .non, .tup _, _, _ | .non, .lst _, _, _ => by simp [D.py, PyData.eqv]
  | .int _, .non, _, _ | .int _, .str _, _, _ | .int _, .tup _, _, _ | .int _, .lst _, _, _ => by simp [D.py, PyData.eqv]
  | .str _, .non, _, _ | .str _, .int _, _, _ | .str _, .tup _, _, _ | .str _, .lst _, _, _ => by simp [D.py, PyData.eqv]
  | .tup _, .non, _, _ | .tup _, .int _, _, _ | .tup _, .str _, _, _ | .tup _, .lst _, _, _ => by simp [D.py, PyData.eqv]
  | .lst _, .non, _, _ | .lst _, .int _, _, _ | .lst _, .str _, _, _ | .lst _, .tup _, _, _ => by simp [D.py, PyData.eqv]
  | .bl _, _, h, _ | .ty _, _, h, _ | .gl _, _, h, _ | .frl _, _, h, _ | .dK _, _, h, _ | .ins _ _, _, h, _ | .exc _ _, _, h, _ => by simp [D.pl] at h
  | _, .bl _, _, h | _, .ty _, _, h | _, .gl _, _, h | _, .frl _, _, h | _, .dK _, _, h | _, .ins _ _, _, h | _, .exc _ _, _, h => by simp [D.pl] at h
theorem eqvs_pl : ∀ a b : List D, D.pls a = true → D.pls b = true → (PyData.eqvAll (D.pys a) (D.pys b) = true ↔ a = b)
  | [], [], _, _ => by simp [D.pys, PyData.eqvAll]
  | [], _ :: _, _, _ => by simp [D.pys, PyData.eqvAll]
  | _ :: _, [], _, _ => by simp [D.pys, PyData.eqvAll]
  | x :: xs, y :: ys, h1, h2 => by
    have h1 : x.pl = true ∧ D.pls xs = true := by simpa [D.pls] using h1
    have h2 : y.pl = true ∧ D.pls ys = true := by simpa [D.pls] using h2
    simp only [D.pys, PyData.eqvAll, Bool.and_eq_true, eqv_pl x y h1.1 h2.1, eqvs_pl xs ys h1.2 h2.2, List.cons.injEq]
end
theorem pls_map {α : Type} (f : α → D) (l : List α) (h : ∀ x ∈ l, (f x).pl = true) : D.pls (l.map f) = true := by
  induction l with
  | nil => rfl
  | cons x l ih =>
    simp only [List.map_cons, D.pls, Bool.and_eq_true]
    exact ⟨h x List.mem_cons_self, ih fun y hy => h y (List.mem_cons_of_mem _ hy)⟩
/-- == is equality -/
theorem gEqA_pl {a b : D} (h1 : a.pl = true) (h2 : b.pl = true) (h3 : a.dat 20 = true) (h4 : b.dat 20 = true) : ∃ x, gEqA a b = some (.bl x) ∧ (x = true ↔ a = b) := by
  have main : ∃ x, gEq a b = some (.bl x) ∧ (x = true ↔ a = b) := ⟨PyData.eqv a.py b.py, by unfold gEq; rw [if_pos (by rw [h3, h4]; rfl)], eqv_pl a b h1 h2⟩
  cases a <;> cases b <;> first
    | exact main
    | exact ⟨_, rfl, by simp⟩
theorem gNeA_pl {a b : D} (h1 : a.pl = true) (h2 : b.pl = true) (h3 : a.dat 20 = true) (h4 : b.dat 20 = true) : ∃ x, gNeA a b = some (.bl x) ∧ (x = true ↔ a ≠ b) := by
  have main : ∃ x, gNe a b = some (.bl x) ∧ (x = true ↔ a ≠ b) := ⟨!PyData.eqv a.py b.py, by unfold gNe; rw [if_pos (by rw [h3, h4]; rfl)], by rw [ne_eq, ← eqv_pl a b h1 h2]; simp⟩
  cases a <;> cases b <;> first
    | exact main
    | exact ⟨_, rfl, by simp⟩
/-! ### items -/
section
variable {e : Env} {Q : R1 → Env → Prop} {ra rb : R1} {ds : List D}
theorem s_ixG {i : Int} (h1 : res ra e = some (.lst ds)) (h2 : res rb e = some (.int i)) (h3 : -(ds.length : Int) ≤ i) (h4 : i < ds.length) (q : ∀ (j : Nat) d, ((0 ≤ i ∧ i = j) ∨ (i < 0 ∧ i + ds.length = j)) → ds[j]? = some d → Q (.val d) e) : SOp2 gIx ra rb e Q := by
  by_cases h0 : 0 ≤ i
  · exact s_ixL h1 h2 h0 h4 fun d hd => q i.toNat d (.inl ⟨h0, by omega⟩) hd
  · have h5 : (i + ds.length).toNat < ds.length := by omega
    refine ⟨_, _, ds[(i + ds.length).toNat], h1, h2, ?_, q _ _ (.inr ⟨by omega, by omega⟩) (List.getElem?_eq_getElem h5)⟩
    simp only [gIx, atI, ixN]
    rw [if_neg h0, if_pos (by omega)]
    simp [List.getElem?_eq_getElem h5]
theorem s_ixM {α : Type} {f : α → D} {l : List α} {i : Int} (h1 : res ra e = some (.lst (l.map f))) (h2 : res rb e = some (.int i)) (h3 : -(l.length : Int) ≤ i) (h4 : i < l.length) (q : ∀ x ∈ l, Q (.val (f x)) e) : SOp2 gIx ra rb e Q := by
  refine s_ixG h1 h2 (by rw [List.length_map]; exact h3) (by rw [List.length_map]; exact h4) fun j d _ hd => ?_
  rw [List.getElem?_map] at hd
  obtain ⟨x, hx, rfl⟩ := Option.map_eq_some_iff.mp hd
  exact q x (List.mem_of_getElem? hx)
/-- .. with its place told -/
theorem s_ixN {α : Type} {f : α → D} {l : List α} {i : Int} (h1 : res ra e = some (.lst (l.map f))) (h2 : res rb e = some (.int i)) (h3 : 0 ≤ i) (h4 : i < l.length) (q : ∀ x, l[i.toNat]? = some x → Q (.val (f x)) e) : SOp2 gIx ra rb e Q := by
  refine s_ixL h1 h2 h3 (by rw [List.length_map]; exact h4) fun d hd => ?_
  rw [List.getElem?_map] at hd
  obtain ⟨x, hx, rfl⟩ := Option.map_eq_some_iff.mp hd
  exact q x hx
theorem gPut_lst {i : Int} {d : D} (h1 : 0 ≤ i) (h2 : i < ds.length) : gPut (.lst ds) (.int i) d = some (.lst (ds.set i.toNat d)) := by
  simp only [gPut, ixN]
  rw [if_pos h1, if_pos h2]
theorem gPut_map {α : Type} {f : α → D} {l : List α} {i : Int} {x : α} (h1 : 0 ≤ i) (h2 : i < l.length) : gPut (.lst (l.map f)) (.int i) (f x) = some (.lst ((l.set i.toNat x).map f)) := by
  rw [gPut_lst h1 (by rw [List.length_map]; exact h2), List.map_set]
end
theorem GF_w {F : GF} {ds os : List D} {r : RO} {P : RO → List D → Prop} (h : F ds = some (r, os)) (q : P r os) : wO (F ds) P := ⟨r, os, h, q⟩
end GR
/-! IE -/
set_option linter.all false
set_option maxRecDepth 100000
set_option maxHeartbeats 2000000
/-! The end: from the head's facts to the law's row. -/
namespace GR
section
open PySem PySem.Spec PyProof.Rows L2
theorem noX_law {P : Program} {w : World} {H : Hp} {s : Shared} {e : Value} {s' : Shared} (h : L2.CX P w [] H s (fun _ _ _ => False) e s') : False := by
  obtain ⟨_, _, _, _, _, _, _, _, _, _, _, _, h⟩ := h
  exact h
theorem FnG.tnF [TabT] {P : Program} {w : World} {K : PySem.W.Frag} {mg : Str → Option Value} {base : Heap} {CX : CXT} {k : Nat} {f : Addr} {fd : FuncData} {ps : List Str} {tn : Bool} {io : List Nat} {F : GF} (h : FnG P w K mg base CX k f fd ps (spD K tn io F)) : FnG P w K mg base CX k f fd ps (spD K false io F) := by
  have m : ∀ vs H Q E, spD K false io F vs H Q E → spD K tn io F vs H Q E := fun vs H Q E ⟨A, ds, r, os, h1, h2, h3⟩ => ⟨A, ds, r, os, h1, h2, by
    cases r with
    | val d => exact fun v H' p r _ => h3 v H' p r fun z => Bool.noConfusion z
    | exc C d => exact h3⟩
  exact { len := fun vs H Q E q => h.len vs H Q E (m vs H Q E q), run := fun A outer s H args us vs Q E hr e0 hb hv q => h.run A outer s H args us vs Q E hr e0 hb hv (m vs H Q E q) }
theorem kwfitM {K : PySem.W.Frag} {x qual : Str} {params : Arguments} {body : List Stmt} {scope : Scope} {f : Addr} {fd : FuncData} {ps ks : List Str} {per : Perm} (F : FunD K x qual params body scope [] [] f fd)
    (h : ∀ (kV doc pm : Value) (an : Option Addr) (cdv ct v : Value) (ws : List Value), ws.length = ks.length → bindArgs (PySem.W.fnOf x qual params body scope .none kV doc pm an cdv ct) ⟨[v], ks.zip ws⟩ = pure (ps.zip (v :: per.per ws))) : KwFitM K fd ps ks per := fun s v ws X hl => by
  obtain ⟨oc, od, dV, kV, doc, pm, an, cdv, ct, osl, rfl, lk, hcd, hD, hK⟩ := F.ex
  rcases hD with ⟨_, rfl⟩ | ⟨e, _⟩
  · exact .of_eq (h kV doc pm an cdv ct v ws hl)
  · exact absurd rfl e
theorem kwfit {K : PySem.W.Frag} {x qual : Str} {params : Arguments} {body : List Stmt} {scope : Scope} {f : Addr} {fd : FuncData} {ps ks : List Str} {per : Perm} (F : FunD K x qual params body scope [] [] f fd)
    (h : ∀ (kV doc pm : Value) (an : Option Addr) (cdv ct : Value) (ws : List Value), ws.length = ks.length → bindArgs (PySem.W.fnOf x qual params body scope .none kV doc pm an cdv ct) ⟨[], ks.zip ws⟩ = pure (ps.zip (per.per ws))) : KwFit K fd ps ks per := fun s ws X hl => by
  obtain ⟨oc, od, dV, kV, doc, pm, an, cdv, ct, osl, rfl, lk, hcd, hD, hK⟩ := F.ex
  rcases hD with ⟨_, rfl⟩ | ⟨e, _⟩
  · exact .of_eq (h kV doc pm an cdv ct ws hl)
  · exact absurd rfl e
theorem code_at {K : PySem.W.Frag} {x qual : Str} {params : Arguments} {body : List Stmt} {scope : Scope} {dvs : List V} {kws : List (Str × V)} {p : Str × Option Str} {fd : FuncData} (F : FunD K x qual params body scope dvs kws (He.fAd K p) fd) : fd.code = .ref (codeAd K p) := by
  obtain ⟨oc, od, dV, kV, doc, pm, an, cdv, ct, osl, rfl, lk, hcd, hD, hK⟩ := F.ex
  have e : (PySem.W.fnOf x qual params body scope dV kV doc pm an cdv ct).code = cdv := rfl
  unfold codeAd
  rw [lk]
  simp only [e]
  cases cdv with
  | ref c => rfl
  | _ => simp [PySem.W.codeIn] at hcd
theorem law_sp [TabT] {P : Program} {w : World} {K : PySem.W.Frag} {h : Heap} {cs : List (Addr × Addr)} {a : Addr} {ns : List Int} {H : Hp} {F : GF} {tn : Bool} {os : List D} (L : LawHp P w K h cs a ns H) (e : F [.frl ns] = some (.val (.bl true), os)) (ht : ∀ x ∈ TabT.T, ∃ p ∈ cs, p.2 = x.1) :
    spD K tn [] F [.ref a] H (fun v _ => v = .bl true) fun _ _ _ => False := by
  have sq : SqLf K H a (ns.map V.int) := by
    rcases L.sq with hr | hr
    · rcases hr with hr | ⟨o, hr⟩
      · rcases L.kind a _ hr with ⟨_, z⟩ | ⟨_, _, ob, z⟩ <;> cases z
      · exact .inl ⟨o, hr⟩
    · exact .inr hr
  refine ⟨fun _ => False, [.frl ns], .val (.bl true), os, ⟨rfl, ?_, ?_, ?_, ?_, ?_⟩, e, fun v H' _ r _ => ?_⟩
  · intro i d hd _
    cases i with
    | zero => cases hd; exact ⟨_, rfl, .frl sq⟩
    | succ i => cases hd
  · intro i d _ hi; cases hi
  · intro i j p hi; cases hi
  · intro i hi; cases hi
  · intro x hx
    obtain ⟨p, hp, e2⟩ := ht x hx
    rw [← e2]
    exact LamX.TabS.nil (L.tb p hp)
  · cases r; rfl
end
end GR
/-! JA -/
set_option linter.all false
set_option maxRecDepth 100000
/-! A thing of ours is read for a while: its slot is a value's in the meantime, and it may be locked. -/
namespace GR
open PySem L2
variable [TabT]
def Cfg.wo (g : Cfg) (j : Nat) (p : Addr) : Cfg := ⟨g.own.filter fun i => i != j, g.io.filter fun i => i != j, (j, p) :: g.ex, g.xh⟩
def Gnd.wo (G : Gnd) (j : Nat) (p : Addr) (o : HO) : Gnd := ⟨fun a => G.A a ∨ a = p, G.pa.filter fun x => x.1 != j, fun a => if a = p then some o else G.H0 a, G.hs⟩
/-- what the slots may hold: the thing itself at its slot alone -/
def woB (B : Nat → Reg) (j : Nat) (p : Addr) : Nat → Reg := fun i a => (i = j ∧ (B j a ∨ a = p)) ∨ (i ≠ j ∧ B i a ∧ a ≠ p)
section
variable {K : PySem.W.Frag} {g : Cfg} {G : Gnd} {B B' : Nat → Reg} {H H' H1 H2 : Hp} {σ σ' : St} {env env' : Env} {p : Addr} {d d' : D} {v : V} {o o' : HO} {j : Nat}
theorem mem_wo {i : Nat} {p : Addr} : i ∈ (g.wo j p).own ↔ i ∈ g.own ∧ i ≠ j := by simp [Cfg.wo]
theorem mem_woio {i : Nat} {p : Addr} : i ∈ (g.wo j p).io ↔ i ∈ g.io ∧ i ≠ j := by simp [Cfg.wo]
theorem mem_wopa {i : Nat} {q : Addr} : (i, q) ∈ (G.wo j p o).pa ↔ (i, q) ∈ G.pa ∧ i ≠ j := by simp [Gnd.wo]
theorem fr_vary {R : Reg} (hp : H p = some o) (v : Vary o o') : Fr R H (upd H p o') := fun a u _ e => by
  by_cases z : a = p
  · subst z
    rw [hp] at e; cases e
    exact ⟨o', upd_same, v⟩
  · exact ⟨u, by rw [upd_ne z]; exact e, Vary.refl _⟩
end
section
variable {K : PySem.W.Frag} {g : Cfg} {G : Gnd} {B B' : Nat → Reg} {H H' H1 H2 : Hp} {σ σ' : St} {env env' : Env} {p : Addr} {d d' : D} {v : V} {o o' : HO} {j : Nat}
theorem EnvOk.wo (ok : EnvOk K g G B σ H env) (hj : j ∈ g.own) (hx : exFree g j = true) (h16 : j ≠ 16777216) (he : env[j]? = some (some d)) (hs : σ[j]? = some (some (.ref p))) (hp : H p = some o) (bo : Box o) (va : Vary o o') (nt : ∀ ps, o' ≠ .tbl ps) :
    EnvOk K (g.wo j p) (G.wo j p o') (woB B j p) σ (upd H p o') env := by
  have lp : Live g env σ p := ⟨j, d, hj, he, hs⟩
  have only : ∀ {i : Nat} {di : D}, i ∈ g.own → env[i]? = some (some di) → σ[i]? = some (some (.ref p)) → i = j := fun hi h1 h2 => ok.apart _ _ _ _ p hi hj h1 he h2 hs
  have lv : ∀ a, Live (g.wo j p) env σ a → Live g env σ a := fun a ⟨i, di, h1, h2, h3⟩ => ⟨i, di, (mem_wo.mp h1).1, h2, h3⟩
  have np : ¬ Live (g.wo j p) env σ p := fun ⟨i, di, h1, h2, h3⟩ => (mem_wo.mp h1).2 (only (mem_wo.mp h1).1 h2 h3)
  have zr : ∀ a, Zr G g env σ a → Zr (G.wo j p o') (g.wo j p) env σ a := fun a ⟨h, n⟩ => by
    refine ⟨?_, fun q => n (lv a q)⟩
    by_cases z : a = p
    · exact .inl (.inr z)
    · rcases h with h | h
      · exact .inl (.inl h)
      · exact .inr ((if_neg z).trans h)
  have zp : Zr (G.wo j p o') (g.wo j p) env σ p := ⟨.inl (.inr rfl), np⟩
  have ne : ∀ a, Zr G g env σ a → a ≠ p := fun a h z => h.2 (by rw [z]; exact lp)
  have fr : ∀ (R : Reg), Fr R H (upd H p o') := fun R => fr_vary hp va
  have paj : ∀ q, (j, q) ∈ G.pa → q = p := fun q h => by
    obtain ⟨_, _, h3, _⟩ := ok.io j q h
    rw [hs] at h3; cases h3; rfl
  exact {
    len := ok.len
    val := fun i di e n => by
      by_cases z : i = j
      · subst z
        rw [he] at e; cases e
        obtain ⟨q, h1, h2, _⟩ := ok.own i d he hj
        rw [hs] at h1; cases h1
        refine ⟨.ref p, hs, (OwnAt.rep (R' := fun a => Zr (G.wo i p o') (g.wo i p) env σ a ∧ woB B i p i a) ⟨zp, .inl ⟨rfl, .inr rfl⟩⟩ (fun a x => ⟨⟨zr a x.1, .inl ⟨rfl, .inl x.2⟩⟩, ne a x.1⟩) h2).fr (fr _)⟩
      · have n' : i ∉ g.own := fun hi => n (mem_wo.mpr ⟨hi, z⟩)
        obtain ⟨u, h1, h2⟩ := ok.val i di e n'
        exact ⟨u, h1, (h2.mono fun a x => ⟨zr a x.1, .inr ⟨z, x.2, ne a x.1⟩⟩).fr (fr _)⟩
    own := fun i di e hi => by
      obtain ⟨hi, z⟩ := mem_wo.mp hi
      obtain ⟨q, h1, h2, h3, h4⟩ := ok.own i di e hi
      have nq : q ≠ p := fun y => z (only hi e (by rw [← y]; exact h1))
      refine ⟨q, h1, (h2.mono fun a x => ⟨zr a x.1, .inr ⟨z, x.2, ne a x.1⟩⟩).fr (fun u hu => by rw [upd_ne nq]; exact hu) (fr _), fun x => mem_wopa.mpr ⟨h3 (mem_woio.mp x).1, z⟩, fun x => (if_neg nq).trans (h4 fun y => x (mem_woio.mpr ⟨y, z⟩))⟩
    io := fun i q h => by
      obtain ⟨h, z⟩ := mem_wopa.mp h
      obtain ⟨h1, h2, h3, h4⟩ := ok.io i q h
      exact ⟨mem_woio.mpr ⟨h1, z⟩, mem_wo.mpr ⟨h2, z⟩, h3, h4⟩
    ioall := fun i hi => by
      obtain ⟨hi, z⟩ := mem_woio.mp hi
      obtain ⟨q, h⟩ := ok.ioall i hi
      exact ⟨q, mem_wopa.mpr ⟨h, z⟩⟩
    apart := fun a b d1 d2 q ha hb => ok.apart a b d1 d2 q (mem_wo.mp ha).1 (mem_wo.mp hb).1
    base := fun a u n h => by
      have h' : (if a = p then some o' else G.H0 a) = some u := h
      by_cases z : a = p
      · rw [if_pos z] at h'; cases h'; rw [z]; exact ⟨_, upd_same, .refl _⟩
      · rw [if_neg z] at h'
        rw [upd_ne z]
        refine ok.base a u (fun i hi => ?_) h'
        by_cases y : i = j
        · rw [y] at hi; exact z (paj a hi)
        · exact n i (mem_wopa.mpr ⟨hi, y⟩)
    tab := tabs_upd ok.tab (fun ps z => bo.noTbl ps (Option.some.inj (hp.symm.trans z))) fun c q z => bo.noCode c q (Option.some.inj (hp.symm.trans z))
    dom := fun a h => by
      have z : a ≠ p := fun z => by rw [z, upd_same] at h; cases h
      rw [upd_ne z] at h
      exact (if_neg z).trans (ok.dom a h)
    ap := fun i a h x => by
      obtain ⟨h, z⟩ := mem_wopa.mp h
      rcases x with x | x
      · exact ok.ap i a h x
      · obtain ⟨_, h2, h3, d0, h4⟩ := ok.io i a h
        exact z (only h2 h4 (by rw [← x]; exact h3))
    hold := fun h q => h.mono _ _ _ (h.fr _ _ _ (ok.hold h q) (fr _)) fun a x => ⟨zr a x.1, .inr ⟨fun z => h16 z.symm, x.2, ne a x.1⟩⟩
    ex := fun x hx => by
      rcases List.mem_cons.mp hx with rfl | hx
      · exact hs
      · exact ok.ex x hx }
/-- .. and is ours again, as it was -/
theorem EnvOk.woBack (ok : EnvOk K g G B σ H env) (hj : j ∈ g.own) (hx : exFree g j = true) (h16 : j ≠ 16777216) (he : env[j]? = some (some d)) (hs : σ[j]? = some (some (.ref p))) (hp : H p = some o) (bo : Box o) (va : Vary o o') (nt : ∀ ps, o' ≠ .tbl ps) (ns : ¬ Stay o')
    (st : Stp K (g.wo j p) (G.wo j p o') (woB B j p) σ (upd H p o') env H' env') : H' p = some o' ∧ Stp K g G B σ H env (upd H' p o) (env'.set j (some d)) := by
  have lp : Live g env σ p := ⟨j, d, hj, he, hs⟩
  have only : ∀ {i : Nat} {di : D}, i ∈ g.own → env[i]? = some (some di) → σ[i]? = some (some (.ref p)) → i = j := fun hi h1 h2 => ok.apart _ _ _ _ p hi hj h1 he h2 hs
  have np : ¬ Live (g.wo j p) env σ p := fun ⟨i, di, h1, h2, h3⟩ => (mem_wo.mp h1).2 (only (mem_wo.mp h1).1 h2 h3)
  have np' : ¬ Live (g.wo j p) env' σ p := fun q => np (st.live p q)
  have jl : j < env'.length := by
    rw [st.ok.len, ← ok.len]
    exact (List.getElem?_eq_some_iff.mp he).1
  have paj : ∀ q, (j, q) ∈ G.pa → q = p := fun q h => by
    obtain ⟨_, _, h3, _⟩ := ok.io j q h
    rw [hs] at h3; cases h3; rfl
  have pap : ∀ i, (i, p) ∈ G.pa → i = j := fun i h => by
    obtain ⟨_, h2, h3, d0, h4⟩ := ok.io i p h
    exact only h2 h4 h3
  have hp' : H' p = some o' := by
    obtain ⟨o2, h1, u⟩ := st.ok.base p o' (fun i h => by
      obtain ⟨h, z⟩ := mem_wopa.mp h
      exact z (pap i h)) (if_pos rfl)
    rw [h1, u.eq nt]
  refine ⟨hp', ?_⟩
  -- what is live behind it
  have lv : ∀ a, Live g (env'.set j (some d)) σ a → Live g env σ a := by
    rintro a ⟨i, di, h1, h2, h3⟩
    rcases get_set_of h2 with ⟨rfl, _⟩ | ⟨z, h2⟩
    · rw [hs] at h3; cases h3; exact lp
    · obtain ⟨i2, d2, a1, a2, a3⟩ := st.live a ⟨i, di, mem_wo.mpr ⟨h1, z⟩, h2, h3⟩
      exact ⟨i2, d2, (mem_wo.mp a1).1, a2, a3⟩
  have zr : ∀ a, Zr G g env σ a → Zr G g (env'.set j (some d)) σ a := fun a ⟨h, n⟩ => ⟨h, fun q => n (lv a q)⟩
  have lv2 : ∀ a, Live g (env'.set j (some d)) σ a → a ≠ p → Live (g.wo j p) env' σ a := by
    rintro a ⟨i, di, h1, h2, h3⟩ ne
    rcases get_set_of h2 with ⟨rfl, _⟩ | ⟨z, h2⟩
    · rw [hs] at h3; cases h3; exact absurd rfl ne
    · exact ⟨i, di, mem_wo.mpr ⟨h1, z⟩, h2, h3⟩
  have zr2 : ∀ a, Zr (G.wo j p o') (g.wo j p) env' σ a → a ≠ p → Zr G g (env'.set j (some d)) σ a := fun a ⟨h, n⟩ ne => by
    refine ⟨?_, fun q => n (lv2 a q ne)⟩
    rcases h with (h | h) | h
    · exact .inl h
    · exact absurd h ne
    · exact .inr ((if_neg ne).symm.trans h)
  -- the heaps
  have frb : ∀ (R : Reg), (∀ a, R a → a ≠ p) → Fr R H' (upd H' p o) := fun R hR a u h e => by
    have ne : a ≠ p := by
      rcases h with h | h
      · exact hR a h
      · rintro rfl
        rw [hp'] at e; cases e; exact ns h
    exact ⟨u, by rw [upd_ne ne]; exact e, Vary.refl _⟩
  have frH : Fr (fun a => ¬ Live g env σ a) H (upd H' p o) := fun a u h e => by
    have ne : a ≠ p := by
      rcases h with h | h
      · exact fun z => h (by rw [z]; exact lp)
      · rintro rfl
        rw [hp] at e; cases e; exact bo.noStay h
    have e1 : upd H p o' a = some u := by rw [upd_ne ne]; exact e
    obtain ⟨u', h1, vv⟩ := st.fr a u (h.imp (fun n l => n (by
      obtain ⟨i, di, a1, a2, a3⟩ := l
      exact ⟨i, di, (mem_wo.mp a1).1, a2, a3⟩)) id) e1
    exact ⟨u', by rw [upd_ne ne]; exact h1, vv⟩
  have hdom : ∀ a, upd H' p o a = none → H a = none := fun a h => by
    have ne : a ≠ p := fun z => by rw [z, upd_same] at h; cases h
    rw [upd_ne ne] at h
    have := st.dom a h
    rw [upd_ne ne] at this
    exact this
  refine ⟨?_, frH, lv, hdom⟩
  exact {
    len := by rw [List.length_set]; exact st.ok.len
    val := fun i di e n => by
      rcases get_set_of e with ⟨rfl, _⟩ | ⟨z, e⟩
      · exact absurd hj n
      · obtain ⟨u, h1, h2⟩ := st.ok.val i di e fun q => n (mem_wo.mp q).1
        refine ⟨u, h1, ?_⟩
        have h3 := h2.mono (R' := fun a => (Zr G g (env'.set j (some d)) σ a ∧ B i a) ∧ a ≠ p) fun a x => by
          rcases x.2 with ⟨y, _⟩ | ⟨_, y1, y2⟩
          · exact absurd y z
          · exact ⟨⟨zr2 a x.1 y2, y1⟩, y2⟩
        exact (h3.fr (frb _ fun a x => x.2)).mono fun a x => x.1
    own := fun i di e n => by
      rcases get_set_of e with ⟨rfl, ed⟩ | ⟨z, e⟩
      · cases ed
        obtain ⟨q, h1, h2, h3⟩ := ok.own i d he n
        rw [hs] at h1; cases h1
        exact ⟨p, hs, (h2.fr (fun u hu => by rw [hp] at hu; cases hu; exact upd_same) (frH.mono fun a x => x.1.2)).mono fun a x => ⟨zr a x.1, x.2⟩, h3⟩
      · obtain ⟨q, h1, h2, h3, h4⟩ := st.ok.own i di e (mem_wo.mpr ⟨n, z⟩)
        have nq : q ≠ p := fun y => np' ⟨i, di, mem_wo.mpr ⟨n, z⟩, e, by rw [← y]; exact h1⟩
        refine ⟨q, h1, ?_, fun x => (mem_wopa.mp (h3 (mem_woio.mpr ⟨x, z⟩))).1, fun x => (if_neg nq).symm.trans (h4 fun y => x (mem_woio.mp y).1)⟩
        have h5 := h2.mono (R' := fun a => (Zr G g (env'.set j (some d)) σ a ∧ B i a) ∧ a ≠ p) fun a x => by
          rcases x.2 with ⟨y, _⟩ | ⟨_, y1, y2⟩
          · exact absurd y z
          · exact ⟨⟨zr2 a x.1 y2, y1⟩, y2⟩
        exact (h5.fr (fun u hu => by rw [upd_ne nq]; exact hu) (frb _ fun a x => x.2)).mono fun a x => x.1
    io := fun i q h => by
      obtain ⟨h1, h2, h3, d0, h4⟩ := ok.io i q h
      refine ⟨h1, h2, h3, ?_⟩
      by_cases z : i = j
      · subst z; exact ⟨d, by rw [List.getElem?_set, if_pos rfl, if_pos jl]⟩
      · obtain ⟨_, _, _, d1, h5⟩ := st.ok.io i q (mem_wopa.mpr ⟨h, z⟩)
        exact ⟨d1, by rw [set_get_ne z]; exact h5⟩
    ioall := ok.ioall
    apart := fun a b d1 d2 q ha hb h1 h2 h3 h4 => by
      have key : ∀ {i : Nat} {di : D}, i ∈ g.own → (env'.set j (some d))[i]? = some (some di) → σ[i]? = some (some (.ref p)) → i = j := fun {i di} hi e1 e2 => by
        rcases get_set_of e1 with ⟨rfl, _⟩ | ⟨z, e1⟩
        · rfl
        · exact absurd ⟨i, di, mem_wo.mpr ⟨hi, z⟩, e1, e2⟩ np'
      rcases get_set_of h1 with ⟨rfl, _⟩ | ⟨z1, h1'⟩
      · rw [hs] at h3; cases h3
        exact (key hb h2 h4).symm
      · rcases get_set_of h2 with ⟨rfl, _⟩ | ⟨z2, h2'⟩
        · rw [hs] at h4; cases h4
          exact key ha h1 h3
        · exact st.ok.apart a b d1 d2 q (mem_wo.mpr ⟨ha, z1⟩) (mem_wo.mpr ⟨hb, z2⟩) h1' h2' h3 h4
    base := fun a u n h => by
      have ne : a ≠ p := by
        rintro rfl
        obtain ⟨q, h1, _, h2, h3⟩ := ok.own j d he hj
        rw [hs] at h1; cases h1
        by_cases hio : j ∈ g.io
        · exact n j (h2 hio)
        · rw [h3 hio] at h; cases h
      rw [upd_ne ne]
      exact st.ok.base a u (fun i hi => n i (mem_wopa.mp hi).1) ((if_neg ne).trans h)
    tab := tabs_upd st.ok.tab (fun ps z => by rw [hp'] at z; exact nt ps (Option.some.inj z)) fun c q z => by
      rw [hp'] at z
      have e := Option.some.inj z
      exact ns (by rw [e]; exact trivial)
    dom := fun a h => ok.dom a (hdom a h)
    ap := ok.ap
    hold := fun h q => by
      have h0 := st.ok.hold h q
      have h3 := h.mono _ _ (fun a => (Zr G g (env'.set j (some d)) σ a ∧ B 16777216 a) ∧ a ≠ p) h0 fun a x => by
        rcases x.2 with ⟨y, _⟩ | ⟨_, y1, y2⟩
        · exact absurd y.symm h16
        · exact ⟨⟨zr2 a x.1 y2, y1⟩, y2⟩
      exact h.mono _ _ _ (h.fr _ _ _ h3 (frb _ fun a x => x.2)) fun a x => x.1
    ex := fun x hx2 => st.ok.ex x (List.mem_cons_of_mem _ hx2) }
end
/-! ### an expression that reads it -/
/-- the slot j is lent to f: what f gives does not hold it -/
def fBor (j : Nat) (f : EF) : EF := fun env => match env[j]?.join with
  | some (.lst ds) => (match f env with
    | some (.val d, e) => if d.shallow = true then some (.val d, e.set j (some (.lst ds))) else none
    | _ => none)
  | _ => none
def fBorD (j : Nat) (f : EF) : EF := fun env => match env[j]?.join with
  | some (.dK ks) => (match f env with
    | some (.val d, e) => if d.shallow = true then some (.val d, e.set j (some (.dK ks))) else none
    | _ => none)
  | _ => none
theorem _root_.L2.PE.ex {X : Cx} {e : Expr} {ι : Type} {t : ι → TE} (h : ∀ p, PE X e (t p)) : PE X e (fun σ H Q => ∃ p, t p σ H Q) := ⟨fun pins s σ H Q I ⟨p, q⟩ => (h p).run pins s σ H Q I q⟩
section
variable {K : PySem.W.Frag} {g : Cfg} {W : WX} {f : EF} {j : Nat} {σ : St} {H : Hp} {Q : VK}
/-- behind the thing's return -/
theorem bor_rep {G : Gnd} {B : Nat → Reg} {env env' : Env} {H' : Hp} {p : Addr} {d d0 : D} {v : V} {o o' : HO} (ok : EnvOk K g G B σ H env) (hj : j ∈ g.own) (he : env[j]? = some (some d0)) (hs : σ[j]? = some (some (.ref p))) (hp : H p = some o) (ns : ¬ Stay o') (hp' : H' p = some o')
    (st : Stp K g G B σ H env (upd H' p o) (env'.set j (some d0))) (sh : d.shallow = true) (nv : NewV (upd H p o') H' v) {R : Reg} (r : Rep K H' R v d) : Rep K (upd H' p o) (Zr G g (env'.set j (some d0)) σ) v d ∧ NewV H (upd H' p o) v := by
  have nvq : ∀ q, v = .ref q → q ≠ p ∧ H q = none := fun q e => by
    obtain ⟨h1, _⟩ := nv q e
    have ne : q ≠ p := fun z => by rw [z, upd_same] at h1; cases h1
    exact ⟨ne, by rw [upd_ne ne] at h1; exact h1⟩
  refine ⟨?_, fun q e => ⟨(nvq q e).2, fun x u => by rw [upd_ne (nvq q e).1]; exact (nv q e).2 x u⟩⟩
  have r1 : Rep K H' (fun a => Zr G g (env'.set j (some d0)) σ a ∧ a ≠ p) v d := r.shallowR sh fun q e => by
    obtain ⟨ne, hq⟩ := nvq q e
    refine ⟨⟨.inr (ok.dom q hq), fun l => ?_⟩, ne⟩
    exact ok.liveThere (st.live q l) hq
  refine (r1.fr (H' := upd H' p o) fun a u h e => ?_).mono fun a x => x.1
  have ne : a ≠ p := by
    rcases h with h | h
    · exact h.2
    · rintro rfl
      rw [hp'] at e; cases e; exact ns h
  exact ⟨u, by rw [upd_ne ne]; exact e, Vary.refl _⟩
theorem bor_rd (hj : j ∈ g.own) (hx : exFree g j = true) (h16 : j ≠ 16777216) (h : DEr K g W true (fBor j f) σ H Q) : ∃ p, DEr K (g.wo j p) W true f σ H Q := by
  obtain ⟨G, B, env, r, env', ok, e, k, _⟩ := h.out
  unfold fBor at e
  split at e
  · rename_i ds hq
    split at e
    · rename_i d e1 hf
      split at e
      · rename_i sh
        cases e
        have he := join_of hq
        obtain ⟨p, hs, ow, _⟩ := ok.own j _ he hj
        obtain ⟨vs, hp, _⟩ := id ow
        have hu : upd H p (.lst vs) = H := by
          funext a
          by_cases z : a = p
          · rw [z, upd_same, hp]
          · rw [upd_ne z]
        have bo : Box (.lst vs) := .inl ⟨_, rfl⟩
        have ok1 := ok.wo hj hx h16 he hs hp bo (Vary.refl _) (fun _ q => nomatch q)
        rw [hu] at ok1
        refine ⟨p, DEr.intro ok1 hf (fun v H' s l n => ?_) fun C d q => nomatch q⟩
        have s' := s
        rw [← hu] at s'
        obtain ⟨hp', st⟩ := ok.woBack hj hx h16 he hs hp bo (Vary.refl _) (fun _ q => nomatch q) (fun q => q) s'
        obtain ⟨r1, r2⟩ := bor_rep ok hj he hs hp (show ¬ Stay (.lst vs) from fun q => q) hp' st sh (by rw [hu]; exact n d rfl rfl) (show Rep K H' _ v d from l)
        have hu' : upd H' p (.lst vs) = H' := by
          funext a
          by_cases z : a = p
          · rw [z, upd_same, hp']
          · rw [upd_ne z]
        rw [hu'] at st r1 r2
        exact k v H' st r1 fun _ _ _ => r2
      · cases e
    · cases e
  · cases e
theorem borD_rd (hj : j ∈ g.own) (hx : exFree g j = true) (h16 : j ≠ 16777216) (h : DEr K g W true (fBorD j f) σ H Q) : ∃ p, ∃ d u, H d = some u ∧ Mut (some u) ∧ ∀ od, DEr K (g.wo j p) W true f σ (upd H d (.frz od u)) fun v H' => H' d = some (.frz od u) ∧ Q v (upd H' d u) := by
  obtain ⟨G, B, env, r, env', ok, e, k, _⟩ := h.out
  unfold fBorD at e
  split at e
  · rename_i ks hq
    split at e
    · rename_i d e1 hf
      split at e
      · rename_i sh
        cases e
        have he := join_of hq
        obtain ⟨p, hs, ow, _⟩ := ok.own j _ he hj
        obtain ⟨kvs, hp, _⟩ := id ow
        have bo : Box (.dK kvs) := .inr (.inl ⟨_, rfl⟩)
        refine ⟨p, p, .dK kvs, hp, trivial, fun od => ?_⟩
        have va : Vary (.dK kvs) (.frz od (.dK kvs)) := .inr ⟨kvs, od, rfl, rfl⟩
        have ns : ¬ Stay (.frz od (.dK kvs)) := fun q => q
        have nt : ∀ ps, HO.frz od (.dK kvs) ≠ .tbl ps := fun _ q => nomatch q
        have ok1 := ok.wo hj hx h16 he hs hp bo va nt
        refine DEr.intro ok1 hf (fun v H' s l n => ?_) fun C d q => nomatch q
        obtain ⟨hp', st⟩ := ok.woBack hj hx h16 he hs hp bo va nt ns s
        obtain ⟨r1, r2⟩ := bor_rep ok hj he hs hp ns hp' st sh (n d rfl rfl) (show Rep K H' _ v d from l)
        exact ⟨hp', k v _ st r1 fun _ _ _ => r2⟩
      · cases e
    · cases e
  · cases e
end
section
variable {X : Cx} {g : Cfg} {W : WX} {e : Expr} {f : EF}
theorem de_bor (j : Nat) (h : ∀ p, DE X (g.wo j p) W true e f) (hj : j ∈ g.own := by walk_at "gmem") (hx : exFree g j = true := by rfl) (h16 : j ≠ 16777216 := by decide) : DE X g W true e (fBor j f) :=
  (L2.PE.ex h).imp fun σ H Q q => bor_rd hj hx h16 q
theorem de_borD (j : Nat) (h : ∀ p, DE X (g.wo j p) W true e f) (hj : j ∈ g.own := by walk_at "gmem") (hx : exFree g j = true := by rfl) (h16 : j ≠ 16777216 := by decide) : DE X g W true e (fBorD j f) :=
  (L2.PE.ex fun p => pe_lock (h p)).imp fun σ H Q q => borD_rd hj hx h16 q
end
end GR
/-! JB -/
set_option linter.all false
set_option maxRecDepth 100000
set_option maxHeartbeats 2000000
/-! Sorting, lists turned about, new things in a borrowed slot's time. -/
namespace GR
open PySem L2
section
/-- one sorted list alone -/
theorem sorted_one {α : Type} {le : α → α → Prop} (anti : ∀ a b, le a b → le b a → a = b) : ∀ {l m : List α}, l.Perm m → l.Pairwise le → m.Pairwise le → l = m
  | [], m, p, _, _ => (List.Perm.eq_nil p.symm).symm
  | a :: l, m, p, hl, hm => by
    cases m with
    | nil => exact absurd p.length_eq (by simp)
    | cons b m =>
      have ha : a ∈ b :: m := p.mem_iff.mp List.mem_cons_self
      have hb : b ∈ a :: l := p.mem_iff.mpr List.mem_cons_self
      have e : a = b := by
        rcases List.mem_cons.mp ha with e | ha
        · exact e
        · rcases List.mem_cons.mp hb with e | hb
          · exact e.symm
          · exact anti a b ((List.pairwise_cons.mp hl).1 b hb) ((List.pairwise_cons.mp hm).1 a ha)
      subst e
      rw [sorted_one anti (List.Perm.cons_inv p) (List.pairwise_cons.mp hl).2 (List.pairwise_cons.mp hm).2]
def leP (a b : Int × Int) : Bool := decide (a.1 < b.1) || (decide (a.1 = b.1) && decide (a.2 ≤ b.2))
theorem leP_iff {a b : Int × Int} : leP a b = true ↔ a.1 < b.1 ∨ (a.1 = b.1 ∧ a.2 ≤ b.2) := by simp [leP]
theorem leP_anti (a b : Int × Int) (h1 : leP a b = true) (h2 : leP b a = true) : a = b := by
  rw [leP_iff] at h1 h2
  exact Prod.ext (by omega) (by omega)
theorem leP_trans (a b c : Int × Int) (h1 : leP a b = true) (h2 : leP b c = true) : leP a c = true := by
  rw [leP_iff] at *
  omega
theorem leP_total (a b : Int × Int) : (leP a b || leP b a) = true := by
  simp only [Bool.or_eq_true, leP_iff]
  omega
def sortP (l : List (Int × Int)) : List (Int × Int) := l.mergeSort leP
theorem sortP_perm (l : List (Int × Int)) : (sortP l).Perm l := List.mergeSort_perm l leP
theorem sortP_sorted (l : List (Int × Int)) : (sortP l).Pairwise fun a b => leP a b = true := List.pairwise_mergeSort leP_trans leP_total l
theorem sortP_eq {l m : List (Int × Int)} (p : m.Perm l) (s : m.Pairwise fun a b => leP a b = true) : m = sortP l := sorted_one leP_anti (p.trans (sortP_perm l).symm) s (sortP_sorted l)
def sortI (l : List Int) : List Int := l.mergeSort fun a b => decide (a ≤ b)
theorem sortI_perm (l : List Int) : (sortI l).Perm l := List.mergeSort_perm l _
theorem sortI_sorted (l : List Int) : (sortI l).Pairwise (· ≤ ·) := by
  have h := List.pairwise_mergeSort (le := fun a b : Int => decide (a ≤ b)) (fun a b c h1 h2 => by simp at *; omega) (fun a b => by simp; omega) l
  exact h.imp fun {a b} q => of_decide_eq_true q
theorem sortI_eq {l m : List Int} (p : m.Perm l) (s : m.Pairwise (· ≤ ·)) : m = sortI l := sorted_one (fun a b h1 h2 => by omega) (p.trans (sortI_perm l).symm) s (sortI_sorted l)
end
section
open PySem.Spec PyProof.Rows
/-- sorted(xs), pairs of ints that may stand anywhere -/
def rSortedPT (K : PySem.W.Frag) : List V → Hp → VK → Prop := fun vs H Q => ∃ (a : Addr) (bs : List (V × (Int × Int))), vs = [V.ref a] ∧ SqL K H a (bs.map Prod.fst) ∧ (∀ b ∈ bs, ∃ t, b.1 = V.ref t ∧ SqT K H t [.int b.2.1, .int b.2.2]) ∧
  ∀ (zs : List (V × (Int × Int))) (p : Addr), zs.Perm bs → (zs.map Prod.snd).Pairwise (fun a b => leP a b = true) → H p = none → Q (.ref p) (upd H p (.lst (zs.map Prod.fst)))
theorem perm_up {α β : Type} {f : α → β} : ∀ {l : List α} {m : List β}, m.Perm (l.map f) → ∃ zs : List α, zs.Perm l ∧ zs.map f = m := by
  intro l m h
  generalize e : l.map f = n at h
  induction h generalizing l with
  | nil => exact ⟨[], by cases l with
      | nil => exact .refl _
      | cons => simp at e, rfl⟩
  | cons x p ih =>
    cases l with
    | nil => simp at e
    | cons a l =>
      simp only [List.map_cons, List.cons.injEq] at e
      obtain ⟨zs, h1, h2⟩ := ih e.2
      exact ⟨a :: zs, h1.cons a, by rw [List.map_cons, h2, e.1]⟩
  | swap x y p =>
    cases l with
    | nil => simp at e
    | cons a l =>
      cases l with
      | nil => simp at e
      | cons b l =>
        simp only [List.map_cons, List.cons.injEq] at e
        obtain ⟨rfl, rfl, rfl⟩ := e
        exact ⟨b :: a :: l, List.Perm.swap a b l, rfl⟩
  | trans p1 p2 ih1 ih2 =>
    obtain ⟨ys, h1, h2⟩ := ih2 e
    obtain ⟨zs, h3, h4⟩ := ih1 h2
    exact ⟨zs, h3.trans h1, h4⟩
section
variable {X : Cx}
open Classical in
theorem cr_sortedPT : CallR X (.builtin "sorted") (rSortedPT X.K) := by
  intro pins s σ H vs us Q I r h
  obtain ⟨a, bs, rfl, hs, hx, q⟩ := h
  obtain ⟨its, rv, hl, hz⟩ := I.list hs
  obtain ⟨u, rfl, ru⟩ := vals1 r
  obtain rfl : u = Value.ref a := ru
  have hx' : ∀ x ∈ bs.map Prod.fst, ∃ t, x = V.ref t := fun x m => by
    obtain ⟨b, hb, rfl⟩ := List.mem_map.mp m
    obtain ⟨t, e, _⟩ := hx b hb
    exact ⟨t, e⟩
  obtain ⟨e1, e2⟩ := refs_back rv hx'
  -- the pair of a value
  obtain ⟨k, hk⟩ : ∃ k : V → Int × Int, ∀ b ∈ bs, k b.1 = b.2 := by
    refine ⟨fun v => if h : ∃ p : Int × Int, ∃ t, v = .ref t ∧ SqT X.K H t [.int p.1, .int p.2] then Classical.choose h else (0, 0), fun b hb => ?_⟩
    obtain ⟨t, e, ht⟩ := hx b hb
    have ex : ∃ p : Int × Int, ∃ t, b.1 = V.ref t ∧ SqT X.K H t [.int p.1, .int p.2] := ⟨b.2, t, e, ht⟩
    simp only [dif_pos ex]
    obtain ⟨t', e', ht'⟩ := Classical.choose_spec ex
    rw [e] at e'; cases e'
    have z := I.tuple_inj ht' ht
    simp only [List.cons.injEq, V.int.injEq, and_true] at z
    exact Prod.ext z.1 z.2
  refine SrtO.sorted_pairsO (k := fun u => k (backV u)) hl.isList (by rw [← rv.length]; exact hz) (fun v hv => ?_) fun h' d out h1 h2 kp hd hn => ?_
  · obtain ⟨t, rfl⟩ := e2 v hv
    have hm : V.ref t ∈ bs.map Prod.fst := by rw [e1]; exact List.mem_map.mpr ⟨_, hv, rfl⟩
    obtain ⟨b, hb, eb⟩ := List.mem_map.mp hm
    obtain ⟨t', e, ht⟩ := hx b hb
    rw [eb] at e; cases e
    obtain ⟨its2, r2, ⟨o, ho, hc, n, hdt⟩, _⟩ := I.tuple ht
    obtain ⟨u1, u2, rfl, ri, rj⟩ := vals2 r2
    obtain ⟨t1, rfl⟩ := ri
    obtain ⟨t2, rfl⟩ := rj
    have hkb := hk b hb
    rw [eb] at hkb
    have bk : backV (Value.ref t) = V.ref t := rfl
    simp only [bk, hkb]
    exact ⟨t, o, t1, t2, n, rfl, ho, hc, hdt⟩
  · have h3 : ∀ u ∈ out, ∃ a, u = Value.ref a := fun u hu => e2 u (h2.perm.mem_iff.mp hu)
    obtain ⟨n, hn⟩ := hn
    have hb : SrtO.Stb (ltP k) (out.map backV) (bs.map Prod.fst) := by
      rw [e1]
      exact SrtO.Stb.map (ltP_swo k) backV h2
    obtain ⟨zs, z1, z2⟩ := perm_up hb.perm
    have hsd : (out.map backV).Pairwise fun x y => ltP k y x = false := SrtO.srtd_map h1
    have srt : (zs.map Prod.snd).Pairwise (fun a b => leP a b = true) := by
      rw [← z2] at hsd
      rw [List.pairwise_map] at hsd ⊢
      refine List.Pairwise.imp_of_mem (fun {x y} hx hy e => ?_) hsd
      have kx := hk x (z1.mem_iff.mp hx)
      have ky := hk y (z1.mem_iff.mp hy)
      have e' := SrtO.lexB_no.mp e
      rw [kx, ky] at e'
      rw [leP_iff]
      omega
    have len : (zs.map Prod.fst).length ≤ sizeLine := by
      rw [z2, hb.perm.length_eq]; exact hz
    refine ⟨.ref d, upd H d (.lst (zs.map Prod.fst)), I.laid (t' := s.toks) kp hd ⟨len, out, n, by rw [z2]; exact vals_back h3, hn⟩, rfl, q zs d z1 srt (I.hok.fresh hd)⟩
end
end
end GR
namespace GR
open PySem L2
variable [TabT]
/-! ### sorted -/
def pairsOf : List D → Option (List (Int × Int))
  | [] => some []
  | .tup [.int i, .int j] :: ds => match pairsOf ds with
    | some ps => some ((i, j) :: ps)
    | none => none
  | _ => none
def pD (p : Int × Int) : D := .tup [.int p.1, .int p.2]
def keysI : List (Key × D) → Option (List Int)
  | [] => some []
  | (.inl i, _) :: ks => match keysI ks with
    | some is => some (i :: is)
    | none => none
  | _ => none
def gSorted : List D → Option D
  | [.lst ds] => match intsOf ds with
    | some is => some (.lst ((sortI is).map D.int))
    | none => match pairsOf ds with
      | some ps => some (.lst ((sortP ps).map pD))
      | none => none
  | [.dK ks] => match keysI ks with
    | some is => if is.length < 64 then some (.lst ((sortI is).map D.int)) else none
    | none => none
  | _ => none
def rSortAll (K : PySem.W.Frag) : List V → Hp → VK → Prop := fun xs H Q => rSortedI K xs H Q ∨ rSortedPT K xs H Q ∨ ∃ (a : Addr) (kvs : List (Key × V)) (ks : List Int), xs = [.ref a] ∧ Rd H a (.dK kvs) ∧ kvs.map (·.1) = ks.map Sum.inl ∧ ks.length < 64 ∧ ∀ (ys : List Int) (p : Addr), ys.Perm ks → ys.Pairwise (· ≤ ·) → H p = none → Q (.ref p) (upd H p (.lst (ys.map V.int)))
theorem c_sorted {X : Cx} (hc : X.calm = true) : CallR X (.builtin "sorted") (rSortAll X.K) := fun pins s σ H vs us Q I r h => by
  rcases h with h | h | h
  · exact cr_sortedI pins s σ H vs us Q I r h
  · exact cr_sortedPT pins s σ H vs us Q I r h
  · exact call_sortedDI hc pins s σ H vs us Q I r h
section
variable {K : PySem.W.Frag} {H : Hp} {R : Reg}
theorem pairs_reps : ∀ {ds : List D} {ps : List (Int × Int)} {vs : List V}, pairsOf ds = some ps → Reps K H R vs ds → ∃ bs : List (V × (Int × Int)), bs.map Prod.fst = vs ∧ bs.map Prod.snd = ps ∧ ∀ b ∈ bs, ∃ t, b.1 = V.ref t ∧ SqT K H t [.int b.2.1, .int b.2.2]
  | [], ps, vs, e, r => by
    cases r
    cases e
    exact ⟨[], rfl, rfl, fun _ h => nomatch h⟩
  | d :: ds, ps, vs, e, r => by
    unfold pairsOf at e
    split at e
    · rename_i z; cases z
    · rename_i i j ds' z
      cases z
      split at e
      · rename_i ps' h
        cases e
        cases r with
        | cons rv rs =>
          obtain ⟨bs, h1, h2, h3⟩ := pairs_reps h rs
          cases rv with
          | @tup _ t vs ds hh r2 =>
            cases r2 with
            | cons ra r3 =>
              cases r3 with
              | cons rb r4 =>
                cases ra
                cases rb
                cases r4
                exact ⟨(.ref t, (i, j)) :: bs, by rw [List.map_cons, h1], by rw [List.map_cons, h2], fun b hb => by
                  rcases List.mem_cons.mp hb with rfl | hb
                  · exact ⟨t, rfl, hh⟩
                  · exact h3 b hb⟩
      · cases e
    · cases e
theorem pD_reps : ∀ {bs : List (V × (Int × Int))}, (∀ b ∈ bs, ∃ t, b.1 = V.ref t ∧ SqT K H t [.int b.2.1, .int b.2.2]) → Reps K H R (bs.map Prod.fst) (bs.map fun b => pD b.2)
  | [], _ => .nil
  | b :: bs, h => by
    obtain ⟨t, e, hh⟩ := h b List.mem_cons_self
    rw [List.map_cons, List.map_cons, e]
    exact .cons (.tup hh (.cons .int (.cons .int .nil))) (pD_reps fun x hx => h x (List.mem_cons_of_mem _ hx))
theorem keysI_eq : ∀ {ks : List (Key × D)} {is : List Int}, keysI ks = some is → ks.map Prod.fst = is.map Sum.inl
  | [], is, e => by cases e; rfl
  | (.inl i, d) :: ks, is, e => by
    unfold keysI at e
    split at e
    · rename_i is' h
      cases e
      rw [List.map_cons, List.map_cons, keysI_eq h]
    · cases e
  | (.inr x, d) :: ks, is, e => by simp [keysI] at e
theorem n_sorted : OpN K (rSortAll K) true gSorted := fun H R L xs ds d Q r hf e k => by
  unfold gSorted at e
  split at e
  · rename_i ds'
    obtain ⟨x, rfl, rx⟩ := one_arg r rfl
    obtain ⟨p, vs, rfl, hp, rs⟩ := rx.lst
    split at e
    · rename_i is hi
      cases e
      have ev := ints_reps hi rs
      refine .inl ⟨p, is, rfl, .inl (.inl (by rw [hp, ev])), fun ns q pm sd hq => ?_⟩
      rw [sortI_eq pm sd]
      refine k _ _ (upd_same_of hq) ?_ fun _ => NewV.upd hq fun _ _ z => nomatch z
      exact .lst (hf q hq) upd_same (reps_ints _)
    · split at e
      · rename_i ps hps
        cases e
        obtain ⟨bs, h1, h2, h3⟩ := pairs_reps hps rs
        refine .inr (.inl ⟨p, bs, rfl, .inl (.inl (by rw [hp, h1])), h3, fun zs q pm sd hq => ?_⟩)
        have ez : zs.map Prod.snd = sortP ps := sortP_eq (by rw [← h2]; exact pm.map Prod.snd) sd
        have h4 : ∀ b ∈ zs, ∃ t, b.1 = V.ref t ∧ SqT K (upd H q (.lst (zs.map Prod.fst))) t [.int b.2.1, .int b.2.2] := fun b hb => by
          obtain ⟨t, e1, e2⟩ := h3 b (pm.mem_iff.mp hb)
          exact ⟨t, e1, (Fr.of_same (R := fun _ => True) (upd_same_of hq)).sqt e2⟩
        have rr := pD_reps (R := fun b => R b ∧ b ≠ q) h4
        have em : zs.map (fun b => pD b.2) = (sortP ps).map pD := by rw [← ez, List.map_map]; rfl
        rw [em] at rr
        exact k _ _ (upd_same_of hq) (.lst (hf q hq) upd_same rr) fun _ => NewV.upd hq fun _ _ z => nomatch z
      · cases e
  · rename_i ks
    obtain ⟨x, rfl, rx⟩ := one_arg r rfl
    obtain ⟨p, kvs, rfl, hp, e1, rs⟩ := rx.dK
    split at e
    · rename_i is hi
      split at e
      · rename_i h64
        cases e
        refine .inr (.inr ⟨p, kvs, is, rfl, hp, e1.trans (keysI_eq hi), h64, fun ns q pm sd hq => ?_⟩)
        rw [sortI_eq pm sd]
        exact k _ _ (upd_same_of hq) (.lst (hf q hq) upd_same (reps_ints _)) fun _ => NewV.upd hq fun _ _ z => nomatch z
      · cases e
    · cases e
  · cases e
end
/-! ### x[::-1] -/
def gRev : D → Option D
  | .lst ds => some (.lst ds.reverse)
  | _ => none
section
variable {X : Cx} {g g0 : Cfg} {W : WX} {tn ta : Bool} {e : Expr} {es : List Expr} {fe : EF} {fa : AF} {pos pos' p1 p2 p3 : Pos} {kk : Nat} {k : Nat}
theorem de_rev (he : DE X g W ta e fe) : DE X g W true (.Subscript e (.Slice none none (some (.UnaryOp .USub (.Constant (.int 1) k p1) p2)) p3) pos) (fOp1 gRev fe) :=
  (pe_revL he).imp fun σ H Q h => by
    have hs : Op1 X.K (fun x H1 Q => ∃ a xs, x = .ref a ∧ SqL X.K H1 a xs ∧ ∀ p, H1 p = none → Q (.ref p) (upd H1 p (.lst xs.reverse))) true gRev := fun H R L x dx d Q rx hf e k => by
      unfold gRev at e
      split at e
      · rename_i ds
        cases e
        obtain ⟨p, vs, rfl, hp, rs⟩ := rx.lst
        refine ⟨p, vs, rfl, .inl (.inl hp), fun q hq => k _ _ (upd_same_of hq) (Rep.newLst hq (hf q hq) rs.reverse) fun _ => NewV.upd hq fun _ _ z => nomatch z⟩
      · cases e
    exact op1_rd (ta := ta) hs h
/-! ### the same rules where the slots are lent, or an exception is at hand -/
theorem mv_io (hio : g0.io = g.io) (r : R1) (env : GR.Env) : mv g0 r env = mv g r env := by
  cases r <;> simp only [mv, hio]
theorem mvs_io (hio : g0.io = g.io) : ∀ (rs : List R1) (env : GR.Env), mvs g0 rs env = mvs g rs env
  | [], _ => rfl
  | r :: rs, env => by
    unfold mvs
    rw [mv_io hio]
    cases mv g r env with
    | none => rfl
    | some de =>
      simp only
      rw [mvs_io hio rs]
theorem fNew_io (hio : g0.io = g.io) (gg : List D → Option D) : fNew g0 gg fa = fNew g gg fa := by
  funext env
  unfold fNew
  cases fa env with
  | none => rfl
  | some re =>
    obtain ⟨r, e⟩ := re
    cases r with
    | exc C d => rfl
    | vals rs => simp only; rw [mvs_io hio]
theorem de_lstG (h : DA X g W es fa) (hio : g0.io = g.io := by rfl) : DE X g W true (.List es pos) (fNew g0 gLstD fa) := by rw [fNew_io hio]; exact de_lst h
theorem de_tupG {x1} (h : DA X g W es fa) (hio : g0.io = g.io := by rfl) : DE X g W true (.Tuple es x1 pos) (fNew g0 gTupD fa) := by rw [fNew_io hio]; exact de_tup h
end
end GR
/-! JC -/
set_option linter.all false
set_option maxRecDepth 100000
set_option maxHeartbeats 2000000
/-! An own ==, and !=; isinstance of a value. -/
namespace GR
section
open PySem PySem.W PySem.Spec PyProof.Rows L2
/-- != of an instance by its own == -/
theorem ne_own {prog : Program} {w : World} {A : Around} {E : Value → Shared → Prop} {s : Shared} {K : Frag} {x C f : Addr} {ox : Obj} {od : Option Obj} {b tb : Value} {Q : Value → Shared → Prop}
    (hu : A.units + 1 < cLine) (X : K.In s.heap) (I : InstAt s.heap x ox C od) (hb : Looks (model prog w) s.heap (typeOf b) tb) (hn : notFirst K C tb = true) (hm : mroIn K C (.type "object") = some true)
    (hne : findIn K (.ref C) "__ne__" = some (some (.builtin "object.__ne__"))) (hs : findIn K (.ref C) "__eq__" = some (some (.ref f))) (hf : isFn K (.ref f) = true)
    (h : wpAny (model prog w) A.in1 (call (.ref f) [.ref x, b]) (fun v s' => ∃ r, v = .bool r ∧ Q (.bool (!r)) s') E s) : wpAny (model prog w) A (richCompare .NotEq (.ref x) b) Q E s := by
  -- the built-in itself
  have inner : wpAny (model prog w) A (call (.builtin "object.__ne__") [.ref x, b]) (fun v s' => ∃ r, v = .bool r ∧ Q v s') E s := by
    refine wpAny_call (codeAny_call_builtin F.cmp_object.ne.plain F.cmpEntry_ne (check_slot F.cmpKind_ne F.cmpSplit_ne (I.type.andThen (looks_mroIn X hm)) (F.cmpArgs_ne _ _) ?_))
    unfold Builtin.«object.__ne__»
    have hu1 : A.in1.units < cLine := by show A.units + 1 < cLine; exact hu
    have eqs : wpAny (model prog w) A.in1 (callSpecialIfBound? (.ref x) "__eq__" [b]) (fun v s' => ∃ r, v = some (.bool r) ∧ Q (.bool (!r)) s') E s :=
      ifBound_K X I hs hf (wpAny_mono h (fun v s' ⟨r, e, q⟩ => ⟨r, by rw [e], q⟩) fun _ _ e => e)
    repeat (first | with_reducible refine wpAny_cRoomFor hu1 ?_ | (refine wpAny_bind (wpAny_mono eqs (fun v s' z => ?_) fun _ _ e => e); obtain ⟨r, rfl, q⟩ := z) | wp_step)
    exact ⟨_, rfl, q⟩
  have one : wpAny (model prog w) A (tryCompare (.ref x) "__ne__" b) (fun r s' => ∃ z, r = some (.bool z) ∧ Q (.bool z) s') E s := by
    unfold tryCompare
    have bound : wpAny (model prog w) A (callSpecialIfBound? (.ref x) "__ne__" [b]) (fun v s' => ∃ z, v = some (.bool z) ∧ Q (.bool z) s') E s := by
      have fin : wpAny (model prog w) A (call (.builtin "object.__ne__") ([.ref x] ++ [b]) >>= fun v => pure (some v)) (fun v s' => ∃ z, v = some (.bool z) ∧ Q (.bool z) s') E s :=
        wpAny_bind (wpAny_mono inner (fun v s' ⟨r, e, q⟩ => wpAny_pure ⟨r, by rw [e], by rw [← e]; exact q⟩) fun _ _ e => e)
      simp only [callSpecialIfBound?, bindSpecialIfBound?]
      refine wpAny_holding (wpAny_bind (wpAny_bind (wpAny_bind (I.type.here ((looks_findIn X hne).here ?_)))))
      refine wpAny_bind (wpAny_askSetting (wpAny_ite ?_))
      split
      · exact wpAny_bind (wpAny_of_eq (F.cmp_object.ne.bind _) (wpAny_pure fin))
      · exact wpAny_tryCatch (wpAny_bind (wpAny_of_eq (F.cmp_object.ne.bind _) (wpAny_pure fin)))
    refine wpAny_bind (wpAny_mono bound (fun v s' z => ?_) fun _ _ e => e)
    obtain ⟨z, rfl, q⟩ := z
    exact wpAny_pure ⟨z, rfl, q⟩
  have last : ∀ (r : Option Value) (s' : Shared), (∃ z, r = some (.bool z) ∧ Q (.bool z) s') → ∃ v, r = some v ∧ Q v s' := fun r s' ⟨z, e, q⟩ => ⟨_, e, q⟩
  unfold richCompare
  simp only [oneThing_ref]
  refine wpAny_holding (wpAny_bind (wpAny_cRoomFor (by omega) (wpAny_bind (I.type.here (wpAny_bind (hb.here ?_))))))
  split
  · rename_i q
    have e : subIn K tb (.ref C) = some false := by
      unfold notFirst at hn
      cases c : tb == .ref C with
      | true => rw [beq_iff_eq.mp c] at q; simp at q
      | false => rw [c, Bool.false_or] at hn; exact beq_iff_eq.mp hn
    refine wpAny_bind ((looks_subIn X e).here ?_)
    simp only [Bool.false_eq_true, if_false]
    refine wpAny_bind (wpAny_mono one (fun r s' z => ?_) fun _ _ e => e)
    obtain ⟨v, rfl, hq⟩ := last r s' z
    exact wpAny_pure hq
  · refine wpAny_bind (wpAny_pure ?_)
    simp only [Bool.false_eq_true, if_false]
    refine wpAny_bind (wpAny_mono one (fun r s' z => ?_) fun _ _ e => e)
    obtain ⟨v, rfl, hq⟩ := last r s' z
    exact wpAny_pure hq
end
end GR
namespace GR
open PySem L2
variable [TabT]
def tyNs : List String := ["NoneType", "bool", "int", "str", "tuple", "list", "dict"]
def tyD : D → Option String
  | .non => some "NoneType"
  | .bl _ => some "bool"
  | .int _ => some "int"
  | .str _ => some "str"
  | .tup _ => some "tuple"
  | .lst _ => some "list"
  | .frl _ => some "list"
  | .dK _ => some "dict"
  | _ => none
theorem tyD_mem {d : D} {T : String} (h : tyD d = some T) : T ∈ tyNs := by
  cases d <;> simp [tyD] at h <;> subst h <;> decide
/-- what the text says of a class whose instances are compared and asked for -/
structure InsTy (K : PySem.W.Frag) (C : Addr) : Prop where
  cls : Cls K C
  ha : PySem.W.findIn K (.ref C) "__class__" = some (some (.builtin "object.__class__"))
  hn : PySem.W.specialIn K (.builtin "object.__class__") "__get__" = some (some (.builtin "getset_descriptor.__get__"))
  ht : PySem.W.takesIn K (.builtin "object.__class__") = some true
  hm : PySem.W.mroIn K C (.type "object") = some true
  kit : ∀ T ∈ tyNs, PySem.W.kitOne K (.type T) (.ref C) = some false
section
variable {K : PySem.W.Frag} {H : Hp} {R L : Reg} {v : V} {d : D} {T : String} {C : Addr}
theorem tyX_rep (r : RepB K H R L v d) (h : tyD d = some T) : TyX K H v (.type T) := by
  cases d with
  | non => cases h; rw [r.non]; exact .base .non
  | bl b => cases h; rw [r.bl]; exact .base (.bl _)
  | int b => cases h; rw [r.int]; exact .base (.int _)
  | str b => cases h; rw [r.str]; exact .base (.str _)
  | tup ds =>
    cases h
    obtain ⟨p, vs, rfl, hp, _⟩ := r.tup
    rcases hp with (hp | ⟨o, hp⟩) | ⟨o, its, n, hk, hc, _⟩
    · exact .base (.tup hp)
    · exact .fTuple hp
    · exact .kTuple hk hc
  | lst ds =>
    cases h
    obtain ⟨p, vs, rfl, hp, _⟩ := r.lst
    exact .base (.lst hp)
  | frl is =>
    cases h
    obtain ⟨p, rfl, hp⟩ := r.frl
    rcases hp with (hp | ⟨o, hp⟩) | ⟨o, its, n, hk, hc, _⟩
    · exact .base (.lst hp)
    · exact .base (.frz hp)
    · exact .kList hk hc
  | dK ks =>
    cases h
    obtain ⟨p, vs, rfl, hp, _⟩ := r.dK
    rcases hp with hp | ⟨o, hp⟩
    · exact .base (.dK hp)
    · exact .fDict hp
  | ty _ => cases h
  | gl _ => cases h
  | ins _ _ => cases h
  | exc _ _ => cases h
theorem tyX_ins (I : InsTy K C) {gs : List (Str × D)} (r : RepB K H R L v (.ins C gs)) : TyX K H v (.ref C) := by
  obtain ⟨p, dx, fs, rfl, hp, _⟩ := r.ins
  exact .base (.ins hp I.cls I.ha I.hn I.ht I.hm)
def gIsi (C : Addr) : List D → Option D
  | [d, .gl C'] => if C' = C then (match d with
    | .ins C2 _ => if C2 = C then some (.bl true) else none
    | d => if (tyD d).isSome = true then some (.bl false) else none) else none
  | [d, .ty n] => match tyD d with
    | some T => (L2.kitB T n).map D.bl
    | none => none
  | _ => none
theorem n_isi (I : InsTy K C) : OpN K (rIsi K) true (gIsi C) := fun H R L xs ds d Q r hf e k => by
  unfold gIsi at e
  split at e
  · rename_i d0 C'
    obtain ⟨x, y, rfl, rx, ry⟩ := two_arg r rfl
    have ey := ry.gl
    subst ey
    split at e
    · rename_i hC
      subst hC
      split at e
      · rename_i C2 gs
        split at e
        · rename_i h2
          subst h2
          cases e
          exact ⟨x, _, _, _, true, rfl, .own _, tyX_ins I rx, by simp [PySem.W.kitOne], k _ H (fun _ _ h => h) .bl nv⟩
        · cases e
      · split at e
        · rename_i h2
          cases e
          obtain ⟨T, hT⟩ := Option.isSome_iff_exists.mp h2
          exact ⟨x, _, _, _, false, rfl, .own _, tyX_rep rx hT, I.kit T (tyD_mem hT), k _ H (fun _ _ h => h) .bl nv⟩
        · cases e
    · cases e
  · rename_i d0 n
    obtain ⟨x, y, rfl, rx, ry⟩ := two_arg r rfl
    have ey := ry.ty
    subst ey
    split at e
    · rename_i T hT
      obtain ⟨b, hb, rfl⟩ := Option.map_eq_some_iff.mp e
      exact ⟨x, _, _, _, b, rfl, .ty n, tyX_rep rx hT, kit_ty hb, k _ H (fun _ _ h => h) .bl nv⟩
    · cases e
  · cases e
end
/-! ### == and != by an own def -/
structure OwnEq (P : Program) (w : World) (K : PySem.W.Frag) (mg : Str → Option Value) (base : Heap) (C : Addr) (F : GF) (k : Nat) : Prop where
  ex : ∃ (f : Addr) (fd : FuncData) (ps : List Str), FnG P w K mg base (L2.CX P w) k f fd ps (spD K true [] F) ∧ Binds K fd ps [] ∧ PySem.W.findIn K (.ref C) "__eq__" = some (some (.ref f)) ∧ PySem.W.isFn K (.ref f) = true
  ne : PySem.W.findIn K (.ref C) "__ne__" = some (some (.builtin "object.__ne__"))
  ty : InsTy K C
  nf : ∀ T ∈ tyNs, PySem.W.notFirst K C (.type T) = true
def rEqO (K : PySem.W.Frag) (neg : Bool) (C : Addr) (F : GF) : R2 := fun x y H Q => ∃ a dx fs, x = .ref a ∧ H a = some (.ins C dx fs) ∧ ((∃ T, T ∈ tyNs ∧ TyX K H y (.type T)) ∨ TyX K H y (.ref C)) ∧
  spD K true [] F [x, y] H (fun z H' => ∃ r, z = .bl r ∧ Q (.bl (neg != r)) H') fun _ _ _ => False
section
variable {X : Cx} {C : Addr} {F : GF} {k : Nat}
theorem eqO_parts {pins : List (Addr × Obj)} {σ : St} {H : Hp} {s : Shared} {A : Around} {x y : V} {v u : Value} {R : Value → Shared → Prop} {Qz : VK} (O : OwnEq X.prog X.w X.K X.mg X.base C F k) (hr : RoomG k A) (e0 : Env0 X.prog X.w X.K X.mg X.base A X.stack s H) (I : Inv X pins σ H s) (rx : RelV x v) (ry : RelV y u)
    (hsp : spD X.K true [] F [x, y] H Qz fun _ _ _ => False) (hR : ∀ w s', EP X pins σ Qz w s' → R w s') : ∀ (f : Addr), PySem.W.findIn X.K (.ref C) "__eq__" = some (some (.ref f)) → wpAny (model X.prog X.w) A (call (.ref f) [v, u]) R X.xe s := by
  intro f hf
  obtain ⟨f', fd, ps, FN, hb, hs, _⟩ := O.ex
  rw [hf] at hs; cases hs
  have hl := FN.len _ _ _ _ hsp
  have r2 : Vals [x, y] [v, u] := .cons rx (.cons ry .nil)
  have bt : BindsTo s fd ⟨[v, u], []⟩ (ps.zip [v, u]) := by
    have := hb s [v, u] I.kIn (by simpa using hl)
    simpa using this
  refine wpAny_call (codeAny_mono (FN.run A X.stack s H ⟨[v, u], []⟩ [v, u] [x, y] Qz _ hr e0 bt r2 hsp) fun r s' hq => ?_)
  match r, hq with
  | .error e, hq => obtain ⟨_, _, _, _, _, _, _, _, _, _, _, _, z⟩ := hq; exact z.elim
  | .ok (.ret w), hq => exact hR w s' (I.after hq)
  | .ok .next, hq => exact hq.elim
  | .ok .brk, hq => exact hq.elim
  | .ok .cont, hq => exact hq.elim
theorem op_eqO (O : OwnEq X.prog X.w X.K X.mg X.base C F k) (hr : RoomG (k + 1) X.A) : OpR X (compareOp .Eq) (rEqO X.K false C F) := by
  intro pins s σ H x y v u Q I rx ry h
  obtain ⟨a, dx, fs, rfl, ha, hy, hsp⟩ := h
  cases (show v = Value.ref a from rx)
  obtain ⟨f, fd, ps, FN, hb, hs, hf⟩ := O.ex
  obtain ⟨mA, J, _⟩ := ins_get I.hok ha
  obtain ⟨od, J, _⟩ := J.look
  obtain ⟨m, hF⟩ := I.fr
  obtain ⟨tb, hty, hn⟩ : ∃ tb, TyX X.K H y tb ∧ PySem.W.notFirst X.K C tb = true := by
    rcases hy with ⟨T, hT, ty⟩ | ty
    · exact ⟨_, ty, O.nf T hT⟩
    · exact ⟨_, ty, by simp [PySem.W.notFirst]⟩
  obtain ⟨Pz, Z, pz, _⟩ := kit_of I ry hty
  show wpAny (model X.prog X.w) X.A (richCompare .Eq (.ref a) u) (EP X pins σ Q) X.xe s
  refine PySem.W.cmp_K (op := .Eq) (tb := tb) hr.room.units0 hF I.ok.mod.kin J (Z.ty _ _ I.kIn pz) hn hs hf ?_
  refine eqO_parts O (hr.mono (Nat.le_succ k)) I.env0 I rx ry hsp (fun w s' q => ?_) f hs
  obtain ⟨z, H', I', rz, r, rfl, qz⟩ := q
  cases rz
  exact ⟨.bl r, H', I', rfl, by simpa using qz⟩
theorem op_neO (O : OwnEq X.prog X.w X.K X.mg X.base C F k) (hr : RoomG (k + 1) X.A) (hu : X.A.units + 1 < cLine) : OpR X (compareOp .NotEq) (rEqO X.K true C F) := by
  intro pins s σ H x y v u Q I rx ry h
  obtain ⟨a, dx, fs, rfl, ha, hy, hsp⟩ := h
  cases (show v = Value.ref a from rx)
  obtain ⟨f, fd, ps, FN, hb, hs, hf⟩ := O.ex
  obtain ⟨mA, J, _⟩ := ins_get I.hok ha
  obtain ⟨od, J, _⟩ := J.look
  obtain ⟨tb, hty, hn⟩ : ∃ tb, TyX X.K H y tb ∧ PySem.W.notFirst X.K C tb = true := by
    rcases hy with ⟨T, hT, ty⟩ | ty
    · exact ⟨_, ty, O.nf T hT⟩
    · exact ⟨_, ty, by simp [PySem.W.notFirst]⟩
  obtain ⟨Pz, Z, pz, _⟩ := kit_of I ry hty
  show wpAny (model X.prog X.w) X.A (richCompare .NotEq (.ref a) u) (EP X pins σ Q) X.xe s
  refine ne_own hu I.kIn J (Z.ty _ _ I.kIn pz) hn O.ty.hm O.ne hs hf ?_
  refine eqO_parts O hr.in1 I.env0.in1 I rx ry hsp (fun w s' q => ?_) f hs
  obtain ⟨z, H', I', rz, r, rfl, qz⟩ := q
  cases rz
  exact ⟨r, rfl, .bl (!r), H', I', rfl, by simpa using qz⟩
end
/-- x == y, x an instance -/
def eqK (neg : Bool) (C : Addr) (F : GF) (ra rb : R1) (e : Env) : Option (R1 × Env) := match res ra e with
  | some (.ins C' _) => if C' = C then (match res rb e with
    | some db => if ((tyD db).isSome || isIns C (some db)) = true then (match callK true [] F [ra, rb] e with
      | some (.val (.bl b), e2) => some (.val (.bl (neg != b)), e2)
      | _ => none) else none
    | none => none) else none
  | _ => none
def fEqO (neg : Bool) (C : Addr) (F : GF) (fa fb : EF) : EF := bind1 fa fun ra e1 => (bind1 fb fun rb e2 => eqK neg C F ra rb e2) e1
section
variable {K : PySem.W.Frag} {g : Cfg} {W : WX} {neg tn ta tb : Bool} {fa fb : EF} {σ : St} {H : Hp} {Q : VK} {C : Addr} {F : GF}
theorem eqO_rd (IT : InsTy K C) (h : DEr K g W true (fEqO neg C F fa fb) σ H Q) : tOp (rEqO K neg C F) (DEr K g W ta fa) (DEr K g W tb fb) σ H Q := by
  obtain ⟨G, B, env, r0, env', ok, e, kv, kx⟩ := h.out
  refine bind1_use ok e (fun C d e1 _ eo a H' s ha => ?_) (fun z => nomatch z) (fun ra e1 x H1 _ _ ek s1 l1 _ => ?_)
  · cases eo; exact kx C d rfl a H' s ha
  · refine bind1_use s1.ok ek (fun C d e2 _ eo a H' s ha => ?_) (fun z => nomatch z) (fun rb e2 y H2 _ _ ek2 s2 l2 _ => ?_)
    · cases eo; exact kx C d rfl a H' (s1.trans s) ha
    · unfold eqK at ek2
      split at ek2
      · rename_i C' gs hra
        split at ek2
        · rename_i hC
          subst hC
          split at ek2
          · rename_i db hrb
            split at ek2
            · rename_i hty
              split at ek2
              · rename_i b e3 hc
                cases ek2
                have s12 := s1.trans s2
                have lx := (l1.stp s2).res s2.ok hra
                have ly := l2.res s2.ok hrb
                obtain ⟨p, dx, fs, hx, hp, _⟩ := id lx.ins
                refine ⟨p, dx, fs, hx, hp, ?_, ?_⟩
                · simp only [Bool.or_eq_true] at hty
                  rcases hty with hty | hty
                  · obtain ⟨T, hT⟩ := Option.isSome_iff_exists.mp hty
                    exact .inl ⟨T, tyD_mem hT, tyX_rep ly hT⟩
                  · right
                    cases db <;> simp [isIns] at hty
                    subst hty
                    exact tyX_ins IT ly
                · have core := call_core (W := W0) (Q := fun z H' => ∃ r, z = .bl r ∧ Q (.bl (neg != r)) H') s12 (.cons (l1.stp s2) (.cons l2 .nil)) hc (fun v H' st l _ => by
                      have rv : Rep K H' _ v (.bl b) := l
                      cases rv
                      exact ⟨b, rfl, kv _ H' st (show Rep K H' _ _ _ from .bl) fun _ _ _ => NewV.no (by intro p q; cases q)⟩) fun C d q => nomatch q
                  exact core
              · cases ek2
            · cases ek2
          · cases ek2
        · cases ek2
      · cases ek2
end
section
variable {X : Cx} {g : Cfg} {W : WX} {ta tb : Bool} {a b : Expr} {fa fb : EF} {pos : Pos} {C : Addr} {F : GF} {k : Nat}
theorem de_eqO (O : OwnEq X.prog X.w X.K X.mg X.base C F k) (hr : RoomG (k + 1) X.A) (ha : DE X g W ta a fa) (hb : DE X g W tb b fb) (hm : behindInMarks .Eq b = false := by rfl) : DE X g W true (.Compare a [.Eq] [b] pos) (fEqO false C F fa fb) :=
  (pe_cmpR (op_eqO O hr) ha hb hm).imp fun _ _ _ => eqO_rd O.ty
theorem de_neO (O : OwnEq X.prog X.w X.K X.mg X.base C F k) (hr : RoomG (k + 1) X.A) (hu : X.A.units + 1 < cLine) (ha : DE X g W ta a fa) (hb : DE X g W tb b fb) (hm : behindInMarks .NotEq b = false := by rfl) : DE X g W true (.Compare a [.NotEq] [b] pos) (fEqO true C F fa fb) :=
  (pe_cmpR (op_neO O hr hu) ha hb hm).imp fun _ _ _ => eqO_rd O.ty
theorem dt_eqO (O : OwnEq X.prog X.w X.K X.mg X.base C F k) (hr : RoomG (k + 1) X.A) (ha : DE X g W ta a fa) (hb : DE X g W tb b fb) (hm : behindInMarks .Eq b = false := by rfl) : DT X g W (.Compare a [.Eq] [b] pos) (fBool (fEqO false C F fa fb)) :=
  (pt_cmpR (op_eqO O hr) ha hb hm).imp fun _ _ _ h => eqO_rd O.ty (bool_rd h)
theorem dt_neO (O : OwnEq X.prog X.w X.K X.mg X.base C F k) (hr : RoomG (k + 1) X.A) (hu : X.A.units + 1 < cLine) (ha : DE X g W ta a fa) (hb : DE X g W tb b fb) (hm : behindInMarks .NotEq b = false := by rfl) : DT X g W (.Compare a [.NotEq] [b] pos) (fBool (fEqO true C F fa fb)) :=
  (pt_cmpR (op_neO O hr hu) ha hb hm).imp fun _ _ _ h => eqO_rd O.ty (bool_rd h)
end
end GR
/-! JD -/
set_option linter.all false
set_option maxRecDepth 100000
set_option maxHeartbeats 2000000
/-! The head once more: defs at any address that the text's names lead to (a property's getter). -/
namespace GR
section
open PySem PySem.W L2 He
/-- a property's getter -/
def gAd (K : Frag) (x m : Str) : Addr := match recIn K (ma K (ga K x) m) "property" with
  | some (.ref g :: _) => g
  | _ => 0
/-- what is looked at of a property -/
def propB (K : Frag) (x m : Str) : Bool := eqO (findIn K (.ref (ga K x)) m) (some (some (.ref (ma K (ga K x) m)))) && (eqO (specialIn K (.ref (ma K (ga K x) m)) "__get__") (some (some (.builtin "property.__get__"))) && (decide (takesIn K (.ref (ma K (ga K x) m)) = some true) &&
  (match recIn K (ma K (ga K x) m) "property" with
    | some (.ref g :: _) => g == gAd K x m
    | _ => false)))
theorem propB_ok {K : Frag} {x m : Str} (h : propB K x m = true) : PropOf K (ga K x) m (ma K (ga K x) m) (gAd K x m) := by
  unfold propB at h
  obtain ⟨h1, h⟩ := ba h
  obtain ⟨h2, h⟩ := ba h
  obtain ⟨h3, h4⟩ := ba h
  refine ⟨eqO_ok h1, eqO_ok h2, of_decide_eq_true h3, ?_⟩
  split at h4
  · rename_i g rest hr
    exact ⟨rest, by rw [hr, beq_iff_eq.mp h4]⟩
  · cases h4
/-- a def of the text, where it stands -/
structure DefQ where
  adr : Frag → Addr
  name : Str
  qual : Str
  st : Stmt
abbrev FnQ : Type := Option (Str × Str × Arguments × FuncBody × Scope × Addr × List (Str × Addr) × Addr)
def fnQ (K : Frag) (a : Addr) : FnQ := match K.lookup a with
  | some ⟨_, _, .func fd, _⟩ => some (fd.name, fd.qualname, fd.params, fd.body, fd.scope, fd.globals, fd.closure, fd.builtins)
  | _ => none
def DefQ.val (d : DefQ) : FnQ := some (d.name, d.qual, defArgs d.st, .stmts (defBody d.st), defScope d.st, mainGlobals, [], builtinsNs)
def isNoneV : Value → Bool
  | .none => true
  | _ => false
def DefQ.ok (K : Frag) (d : DefQ) : Bool := keepIn K (.ref (d.adr K)) && (match K.lookup (d.adr K) with
  | some ⟨_, _, .func fd, _⟩ => codeIn K fd.code d.qual && isNoneV fd.defaults
  | _ => false)
theorem DefQ.fun_ {K : Frag} {d : DefQ} (e : fnQ K (d.adr K) = d.val) (c : d.ok K = true) : ∃ fd, L2.Fun K d.name d.qual d.st (d.adr K) fd := by
  obtain ⟨kp, c2⟩ := ba c
  unfold fnQ at e
  split at c2
  · rename_i oc od fd sl hl
    rw [hl] at e
    obtain ⟨c3, c4⟩ := ba c2
    obtain ⟨n1, n2, n3, n4, n5, n6, n7, dv, n9, n10, n11, n12, n13, n14, n15⟩ := fd
    have e2 : (some (n1, n2, n3, n4, n5, n6, n7, n15) : FnQ) = d.val := e
    unfold DefQ.val at e2
    simp only [Option.some.injEq, Prod.mk.injEq] at e2
    obtain ⟨h1, h2, h3, h4, h5, h6, h7, h8⟩ := e2
    subst h1 h2 h3 h4 h5 h6 h7 h8
    have hd : dv = .none := by
      cases dv <;> first | rfl | cases c4
    subst hd
    exact ⟨_, ⟨oc, od, n9, n10, n11, n12, n13, n14, sl, rfl, hl, c3⟩, kp⟩
  · cases c2
abbrev AlQ : Type := Bool × List FnQ
def obsQ (n : Nat) (pr : Frag → Bool) (fn : List DefQ) (tb : List (Str × Option Str)) (g : Addr → Option Obj) : AlQ := (pr (reach n g) && (fn.all fun d => d.ok (reach n g)) && (tb.all fun p => tabOk g (reach n g) p), fn.map fun d => fnQ (reach n g) (d.adr (reach n g)))
structure SaysQ (pr : Frag → Bool) (fn : List DefQ) (tb : List (Str × Option Str)) (K : Frag) (h : Heap) : Prop where
  inK : K.In h
  pr : pr K = true
  fns : ∀ d ∈ fn, d.ok K = true ∧ fnQ K (d.adr K) = d.val
  tab : ∀ p ∈ tb, codeHdIn K (codeAd K p) (tabAd K p) = true ∧ h.get? (tabAd K p) = some { cls := .none, data := .fields #[] } ∧ K.lookup (tabAd K p) = none
theorem saysQ_of {n : Nat} {pr : Frag → Bool} {fn : List DefQ} {tb : List (Str × Option Str)} {h : Heap} (e : obsQ n pr fn tb h.get? = (true, fn.map DefQ.val)) : SaysQ pr fn tb (reach n h.get?) h := by
  have e1 : (pr (reach n h.get?) && (fn.all fun d => d.ok (reach n h.get?)) && (tb.all fun p => tabOk h.get? (reach n h.get?) p)) = true := congrArg (fun z : AlQ => z.1) e
  have e2 : (fn.map fun d => fnQ (reach n h.get?) (d.adr (reach n h.get?))) = fn.map DefQ.val := congrArg (fun z : AlQ => z.2) e
  -- the old hook's words, with no defs
  have old := saysP_of (n := n) (pr := pr) (fn := []) (tb := tb) (h := h) (by
    simp only [Bool.and_eq_true] at e1
    unfold obsP
    simp only [List.all_nil, List.map_nil, Bool.and_true, e1.1.1, e1.2])
  simp only [Bool.and_eq_true, List.all_eq_true] at e1
  exact ⟨old.inK, e1.1.1, fun d hd => ⟨e1.1.2 d hd, List.map_inj_left.mp e2 d hd⟩, old.tab⟩
def hookQ (n : Nat) (pr : Frag → Bool) (fn : List DefQ) (tb : List (Str × Option Str)) : Hook where
  α := AlQ
  obs := fun s => obsQ n pr fn tb s.heap.get?
  val := fun _ => (true, fn.map DefQ.val)
  says := fun _ h => ∃ K, SaysQ pr fn tb K h
  of := fun _ _ e => ⟨_, saysQ_of e⟩
  keeps := fun _ _ _ ⟨K, c⟩ k => ⟨K, ⟨Frag.In.keeps c.inK k, c.pr, c.fns, fun p hp => ⟨(c.tab p hp).1, k _ _ (c.tab p hp).2.1, (c.tab p hp).2.2⟩⟩⟩
theorem obsQ_eq {n : Nat} {pr : Frag → Bool} {fn : List DefQ} {tb : List (Str × Option Str)} {g : Addr → Option Obj} {s : Shared} (h : ∀ a, g a = s.heap.get? a) : obsQ n pr fn tb g = (hookQ n pr fn tb).obs s := by
  have e : g = s.heap.get? := funext h
  rw [e] <;> rfl
theorem SaysQ.def_ {pr : Frag → Bool} {fn : List DefQ} {tb : List (Str × Option Str)} {K : Frag} {h : Heap} (c : SaysQ pr fn tb K h) (i : Nat) {d : DefQ} (hi : fn[i]? = some d := by rfl) : ∃ fd, L2.Fun K d.name d.qual d.st (d.adr K) fd := by
  obtain ⟨h1, h2⟩ := c.fns d (List.mem_of_getElem? hi)
  exact DefQ.fun_ h2 h1
/-! ### calls of such a def -/
theorem _root_.L2.Fun.binds0 {K : Frag} {x qual : Str} {st : Stmt} {f : Addr} {fd : FuncData} {ps : List Str} (F : L2.Fun K x qual st f fd)
    (h : ∀ (kV doc pm : Value) (an : Option Addr) (cdv ct : Value) (us : List Value), us.length = ps.length → bindArgs (fnOf x qual (defArgs st) (defBody st) (defScope st) .none kV doc pm an cdv ct) ⟨us, []⟩ = pure (ps.zip us)) : Binds K fd ps [] := by
  obtain ⟨oc, od, kV, doc, pm, an, cdv, ct, osl, rfl, lk, hcd⟩ := F.ex
  exact .all (h kV doc pm an cdv ct)
theorem _root_.L2.Fun.to1 {K : Frag} {x qual : Str} {st : Stmt} {f : Addr} {fd : FuncData} {ps : List Str} (F : L2.Fun K x qual st f fd)
    (h : ∀ (kV doc pm : Value) (an : Option Addr) (cdv ct : Value) (us : List Value), us.length = ps.length → bindArgs (fnOf x qual (defArgs st) (defBody st) (defScope st) .none kV doc pm an cdv ct) ⟨us, []⟩ = pure (ps.zip us)) (s : Shared) (us : List Value) (hl : us.length = ps.length) : BindsTo s fd ⟨us, []⟩ (ps.zip us) := by
  obtain ⟨oc, od, kV, doc, pm, an, cdv, ct, osl, rfl, lk, hcd⟩ := F.ex
  exact .of_eq (h kV doc pm an cdv ct us hl)
theorem kwfitQ {K : Frag} {x qual : Str} {st : Stmt} {f : Addr} {fd : FuncData} {ps ks : List Str} {per : Perm} (F : L2.Fun K x qual st f fd)
    (h : ∀ (kV doc pm : Value) (an : Option Addr) (cdv ct : Value) (ws : List Value), ws.length = ks.length → bindArgs (fnOf x qual (defArgs st) (defBody st) (defScope st) .none kV doc pm an cdv ct) ⟨[], ks.zip ws⟩ = pure (ps.zip (per.per ws))) : KwFit K fd ps ks per := fun s ws X hl => by
  obtain ⟨oc, od, kV, doc, pm, an, cdv, ct, osl, rfl, lk, hcd⟩ := F.ex
  exact .of_eq (h kV doc pm an cdv ct ws hl)
theorem kwfitMQ {K : Frag} {x qual : Str} {st : Stmt} {f : Addr} {fd : FuncData} {ps ks : List Str} {per : Perm} (F : L2.Fun K x qual st f fd)
    (h : ∀ (kV doc pm : Value) (an : Option Addr) (cdv ct v : Value) (ws : List Value), ws.length = ks.length → bindArgs (fnOf x qual (defArgs st) (defBody st) (defScope st) .none kV doc pm an cdv ct) ⟨[v], ks.zip ws⟩ = pure (ps.zip (v :: per.per ws))) : KwFitM K fd ps ks per := fun s v ws X hl => by
  obtain ⟨oc, od, kV, doc, pm, an, cdv, ct, osl, rfl, lk, hcd⟩ := F.ex
  exact .of_eq (h kV doc pm an cdv ct v ws hl)
theorem code_atQ {K : Frag} {x qual : Str} {st : Stmt} {p : Str × Option Str} {fd : FuncData} (F : L2.Fun K x qual st (fAd K p) fd) : fd.code = .ref (codeAd K p) := by
  obtain ⟨oc, od, kV, doc, pm, an, cdv, ct, osl, rfl, lk, hcd⟩ := F.ex
  have e : (fnOf x qual (defArgs st) (defBody st) (defScope st) .none kV doc pm an cdv ct).code = cdv := rfl
  unfold codeAd
  rw [lk]
  simp only [e]
  cases cdv with
  | ref c => rfl
  | _ => simp [codeIn] at hcd
end
end GR
/-! JE -/
set_option linter.all false
set_option maxRecDepth 100000
/-! Comprehensions where a slot is lent. -/
namespace GR
open PySem L2
variable [TabT]
theorem nall {l : List (Str × Nat)} {m : List Nat} (h : (l.all fun x => !m.contains x.2) = true) : ∀ i ∈ l.map (·.2), i ∉ m := fun i hi hm => by
  obtain ⟨x, hx, rfl⟩ := List.mem_map.mp hi
  have := List.all_eq_true.mp h x hx
  simp at this
  exact this hm
theorem exall {l : List (Str × Nat)} {xs : List (Nat × Addr)} (h : (xs.all fun x => !(l.map (·.2)).contains x.1) = true) : ∀ x ∈ xs, x.1 ∉ l.map (·.2) := fun x hx hm => by
  have := List.all_eq_true.mp h x hx
  simp only [Bool.not_eq_true', List.contains_eq_mem, decide_eq_false_iff_not] at this
  exact this hm
section
variable {X : Cx} {g : Cfg} {W : WX} {tn tn' : Bool} {elt tg iter : Expr} {ifs : List Expr} {scope : Scope} {pos spos py : Pos} {fi : IF} {ft : GT} {fc : TF} {fe : EF} {y : Str}
theorem de_compN (own : List (Str × Nat)) (hc : X.calm = true) (hN : X.N.Nodup) (ok : BlkOk X.N X.env.scope scope own) (hi : DI X g W tg iter fi)
    (hg : ∀ (s : Shared) (H : Hp) (C : Addr) (cl : List (Str × Addr)) (fp : List Addr), DG (X.blk s H scope (compEnvC scope cl C X.env) fp) g (own.map (·.2)) tg ft)
    (ht : ∀ (s : Shared) (H : Hp) (C : Addr) (cl : List (Str × Addr)) (fp : List Addr), DTs (X.blk s H scope (compEnvC scope cl C X.env) fp) g ifs fc)
    (he : ∀ (s : Shared) (H : Hp) (C : Addr) (cl : List (Str × Addr)) (fp : List Addr), DE (X.blk s H scope (compEnvC scope cl C X.env) fp) g W0 tn' elt fe)
    (hw : (own.all fun x => !g.io.contains x.2) = true := by rfl) (hwo : (own.all fun x => !g.own.contains x.2) = true := by rfl) (h16 : 16777216 ∉ own.map (·.2) := by decide) (hxw : (g.ex.all fun x => !(own.map (·.2)).contains x.1) = true := by rfl)
    (hs : ∀ x, foldedSetIterable iter X.env x = pure x := by intro _; rfl) : DE X g W true (.ListComp elt [⟨tg, iter, ifs, 0⟩] scope pos) (fComp (own.map (·.2)) fi ft fc fe) :=
  de_comp own hc hN ok hi hg ht he (nall hw) (nall hwo) h16 (exall hxw) hs
theorem _root_.L2.PS.exi {X : Cx} {e : Stmt} {ι : Type} {t : ι → TS} (h : ∀ p, PS X e (t p)) : PS X e (fun D σ H => ∃ p, t p D σ H) := ⟨fun pins s σ H D I ⟨p, q⟩ => (h p).run pins s σ H D I q⟩
theorem ds_setCompB (j i : Nat) (own : List (Str × Nat)) (hc : X.calm = true) (hN : X.N.Nodup) (ok : BlkOk X.N X.env.scope scope own) (hi : ∀ p, DI X (g.wo j p) W tg iter fi)
    (hg : ∀ (p : Addr) (s : Shared) (H : Hp) (C : Addr) (cl : List (Str × Addr)) (fp : List Addr), DG (X.blk s H scope (compEnvC scope cl C X.env) fp) (g.wo j p) (own.map (·.2)) tg ft)
    (ht : ∀ (p : Addr) (s : Shared) (H : Hp) (C : Addr) (cl : List (Str × Addr)) (fp : List Addr), DTs (X.blk s H scope (compEnvC scope cl C X.env) fp) (g.wo j p) ifs fc)
    (he : ∀ (p : Addr) (s : Shared) (H : Hp) (C : Addr) (cl : List (Str × Addr)) (fp : List Addr), DE (X.blk s H scope (compEnvC scope cl C X.env) fp) (g.wo j p) W0 tn' elt fe)
    (hj : j ∈ g.own := by walk_at "gmem") (hjx : exFree g j = true := by rfl) (h16j : j ≠ 16777216 := by decide)
    (hio : i ∉ g.own := by walk_at "gmem") (hxf : exFree g i = true := by rfl) (hy : X.N[i]? = some y := by rfl) (hyl : X.env.scope.names.lookup y = some .local := by rfl)
    (hsw : swapsWith (.ListComp elt [⟨tg, iter, ifs, 0⟩] scope pos) (some (.Name y py)) spos.line X.env = pure true := by exact sw_true rfl rfl rfl rfl)
    (hw : ∀ p, (own.all fun x => !(g.wo j p).io.contains x.2) = true := by intro _; rfl) (hwo : ∀ p, (own.all fun x => !(g.wo j p).own.contains x.2) = true := by intro _; rfl) (h16 : 16777216 ∉ own.map (·.2) := by decide) (hxw : ∀ p, ((g.wo j p).ex.all fun x => !(own.map (·.2)).contains x.1) = true := by intro _; rfl)
    (hs : ∀ x, foldedSetIterable iter X.env x = pure x := by intro _; rfl) : DS X g W tn (.Assign [.Name y py] (.ListComp elt [⟨tg, iter, ifs, 0⟩] scope pos) spos) (fSet g i (fBor j (fComp (own.map (·.2)) fi ft fc fe))) :=
  (L2.PS.exi fun p => ps_setLc (g := DGr X.K (g.wo j p) (own.map fun p : Str × Nat => p.2) ft) (tt := DTr X.K (g.wo j p) W0 fc) (te := DEr X.K (g.wo j p) W0 tn' fe) hc hN hy hyl hsw (hi p) ok (hg p) (ht p) (he p) hs).imp fun Dn σ H h => by
    obtain ⟨p, q⟩ := bor_rd hj hjx h16j (set_rd (tn' := true) hio hxf h)
    exact ⟨p, comp_rd (nall (hw p)) (nall (hwo p)) h16 (exall (hxw p)) q⟩
theorem ds_setOwnCompB (j i : Nat) (own : List (Str × Nat)) (hc : X.calm = true) (hN : X.N.Nodup) (ok : BlkOk X.N X.env.scope scope own) (hi : ∀ p, DI X (g.wo j p) W tg iter fi)
    (hg : ∀ (p : Addr) (s : Shared) (H : Hp) (C : Addr) (cl : List (Str × Addr)) (fp : List Addr), DG (X.blk s H scope (compEnvC scope cl C X.env) fp) (g.wo j p) (own.map (·.2)) tg ft)
    (ht : ∀ (p : Addr) (s : Shared) (H : Hp) (C : Addr) (cl : List (Str × Addr)) (fp : List Addr), DTs (X.blk s H scope (compEnvC scope cl C X.env) fp) (g.wo j p) ifs fc)
    (he : ∀ (p : Addr) (s : Shared) (H : Hp) (C : Addr) (cl : List (Str × Addr)) (fp : List Addr), DE (X.blk s H scope (compEnvC scope cl C X.env) fp) (g.wo j p) W0 tn' elt fe)
    (hj : j ∈ g.own := by walk_at "gmem") (hjx : exFree g j = true := by rfl) (h16j : j ≠ 16777216 := by decide)
    (hin : i ∈ g.own := by walk_at "gmem") (hio : i ∉ g.io := by walk_at "gmem") (hxf : exFree g i = true := by rfl) (hy : X.N[i]? = some y := by rfl) (hyl : X.env.scope.names.lookup y = some .local := by rfl)
    (hsw : swapsWith (.ListComp elt [⟨tg, iter, ifs, 0⟩] scope pos) (some (.Name y py)) spos.line X.env = pure true := by exact sw_true rfl rfl rfl rfl)
    (hw : ∀ p, (own.all fun x => !(g.wo j p).io.contains x.2) = true := by intro _; rfl) (hwo : ∀ p, (own.all fun x => !(g.wo j p).own.contains x.2) = true := by intro _; rfl) (h16 : 16777216 ∉ own.map (·.2) := by decide) (hxw : ∀ p, ((g.wo j p).ex.all fun x => !(own.map (·.2)).contains x.1) = true := by intro _; rfl)
    (hs : ∀ x, foldedSetIterable iter X.env x = pure x := by intro _; rfl) : DS X g W tn (.Assign [.Name y py] (.ListComp elt [⟨tg, iter, ifs, 0⟩] scope pos) spos) (fSetOwn g i (fBor j (fComp (own.map (·.2)) fi ft fc fe))) :=
  (L2.PS.exi fun p => ps_setLc (g := DGr X.K (g.wo j p) (own.map fun p : Str × Nat => p.2) ft) (tt := DTr X.K (g.wo j p) W0 fc) (te := DEr X.K (g.wo j p) W0 tn' fe) hc hN hy hyl hsw (hi p) ok (hg p) (ht p) (he p) hs).imp fun Dn σ H h => by
    obtain ⟨p, q⟩ := bor_rd hj hjx h16j (setOwn_rd hin hio hxf h)
    exact ⟨p, comp_rd (nall (hw p)) (nall (hwo p)) h16 (exall (hxw p)) q⟩
end
end GR
/-! JF -/
set_option linter.all false
set_option maxRecDepth 100000
/-! a, b = x, y where a name is a cell: a pair is made and taken apart. -/
namespace GR
open PySem L2
variable [TabT]
section
variable {K : PySem.W.Frag} {g : Cfg} {G : Gnd} {H H' : Hp} {σ : St} {env : Env} {P ps : List Addr} {bs : List Bool} {vs : List V} {rs : List R1}
theorem PV.grow (e : ∀ a o, H a = some o → H' a = some o) (h : PV K g G σ H env P bs vs rs ps) : PV K g G σ H' env P bs vs rs ps := by
  induction h with
  | nil => exact .nil
  | val r _ ih => exact .val (r.fr (Fr.of_same e)) ih
  | box h2 _ ih => exact .box (h2.fr (fun o h => e _ o h) (Fr.of_same e)) ih
theorem PV.lenV (h : PV K g G σ H env P bs vs rs ps) : vs.length = bs.length := by
  induction h with
  | nil => rfl
  | val _ _ ih => simp [ih]
  | box _ _ ih => simp [ih]
end
section
variable {K : PySem.W.Frag} {g : Cfg} {W : WX} {tn : Bool} {σ : St} {H : Hp} {Dn : Ends} {is : List Nat} {fs : List (Bool × EF)}
theorem parT_rd (fit : parFit g is (fs.map Prod.fst) = true) (h : DSr K g W tn (fPars g is fs) Dn σ H) : DParr K g W fs σ H fun vs H' => vs.length = fs.length ∧ ∀ p, H' p = none → Dn.nx (setsV is vs σ) (upd H' p (.tup vs)) := by
  obtain ⟨G, env, fl, env', ok, ee, q⟩ := h
  unfold fPars at ee
  cases e1 : fPar g fs env with
  | none => rw [e1] at ee; cases ee
  | some re =>
    obtain ⟨r, env1⟩ := re
    rw [e1] at ee
    refine ⟨G, _, env, r, env1, ok.here, fun i a h => h, e1, fun rs er vs H' P st nd fr pv => ⟨by rw [pv.lenV, List.length_map], fun p hp => ?_⟩, fun C d er a H' st ha => ?_⟩
    · subst er
      simp only at ee
      split at ee
      · rename_i hl
        cases ee
        have st := st.grow (upd_same_of (o := .tup vs) hp)
        have pv := pv.grow (upd_same_of (o := .tup vs) hp)
        refine q _ _ (par_set pv (st.ok.monoB fun i a h m => h (fr a m).1) fit (fun _ h => h) nd (fun p hp => ⟨ok.dom p (fr p hp).1, (fr p hp).2⟩) (fun a x => x.1) fun i hi => ?_)
        have := List.all_eq_true.mp hl i hi
        rw [← st.ok.len]; simpa using this
      · cases ee
    · subst er; cases ee
      exact q a σ H' st.ok.top ha
theorem DParr.mono {Q Q' : List V → Hp → Prop} (h : DParr K g W fs σ H Q) (m : ∀ vs H', Q vs H' → Q' vs H') : DParr K g W fs σ H Q' := by
  obtain ⟨G, B, env, r, env', ok, hB, e, kv, kx⟩ := h
  exact ⟨G, B, env, r, env', ok, hB, e, fun rs er vs H' P st nd fr pv => m _ _ (kv rs er vs H' P st nd fr pv), kx⟩
end
section
variable {X : Cx} {g : Cfg} {W : WX} {tn ta tb tc ba bb bc : Bool} {a b c : Expr} {fa fb fc : EF} {x y z : Str} {px py pz pt pos : Pos} {kt : Nat} {pt2 : Pos} {k2 : Nat}
theorem ds_parT2 (i j : Nat) (ba bb : Bool) (hc : X.calm = true) (hN : X.N.Nodup) (ha : DE X g W ta a fa) (hb : DE X g W tb b fb) (hta : (!ba || ta) = true := by rfl) (htb : (!bb || tb) = true := by rfl) (fit : parFit g [i, j] [ba, bb] = true := by rfl)
    (hi : X.N[i]? = some x := by rfl) (hj : X.N[j]? = some y := by rfl) (hx : Loc X.env.scope x := by first | exact Or.inl rfl | exact Or.inr rfl) (hy : Loc X.env.scope y := by first | exact Or.inl rfl | exact Or.inr rfl)
    (hfx : X.fn x = true ∨ X.env.scope.names.lookup x = some .local := by first | exact .inl rfl | exact .inr rfl | assumption) (hfy : X.fn y = true ∨ X.env.scope.names.lookup y = some .local := by first | exact .inl rfl | exact .inr rfl | assumption)
    (hw : swappedStores [.Tuple [.Name x px, .Name y py] kt pt] (.Tuple [a, b] k2 pt2) X.env = pure none := by rfl) (hs : swapsWithSole [.Tuple [.Name x px, .Name y py] kt pt] (.Tuple [a, b] k2 pt2) pos.line X.env = pure false := by rfl)
    (hs1 : starEach [a, b] X.env = (false, eval a X.env) :: starEach [b] X.env := by rfl) (hs2 : starEach [b] X.env = (false, eval b X.env) :: starEach [] X.env := by rfl) (h1 : (assignEach [.Tuple [.Name x px, .Name y py] kt pt] X.env).map (·.2) = [assign (.Tuple [.Name x px, .Name y py] kt pt) X.env] := by rfl) :
    DS X g W tn (.Assign [.Tuple [.Name x px, .Name y py] kt pt] (.Tuple [a, b] k2 pt2) pos) (fPars g [i, j] [(ba, fa), (bb, fb)]) :=
  (ps_asg (pe_tup (dpar_cons ha hta (dpar_cons hb htb dpar_nil hs2) hs1)) (pg_tup hc (pgs_cons (pg_name hN hi hx hfx) (pgs_cons (pg_name hN hj hy hfy) pgs_nil))) hs hw h1).imp fun Dn σ H h => by
    refine (parT_rd (is := [i, j]) (fs := [(ba, fa), (bb, fb)]) fit h).mono fun vs H' ⟨hl, q⟩ => ?_
    match vs, hl with
    | [v, w], _ => exact ⟨by rw [sizeLine_eq]; simp, fun p hp => ⟨p, _, rfl, SqT.of upd_same, rfl, ⟨_, _, rfl, ⟨_, _, rfl, ⟨rfl, q p hp⟩⟩⟩⟩⟩
end
end GR
/-! JG -/
set_option linter.all false
set_option maxRecDepth 100000
set_option maxHeartbeats 2000000
/-! The head's truths of a class with an own == and of properties. -/
namespace GR
section
open PySem PySem.W L2 He
def insB (K : Frag) (x : Str) : Bool := (Fa.cls x).ok K && (eqO (findIn K (.ref (ga K x)) "__class__") (some (some (.builtin "object.__class__"))) && (eqO (specialIn K (.builtin "object.__class__") "__get__") (some (some (.builtin "getset_descriptor.__get__"))) &&
  (decide (takesIn K (.builtin "object.__class__") = some true) && (decide (mroIn K (ga K x) (.type "object") = some true) && tyNs.all fun T => decide (kitOne K (.type T) (.ref (ga K x)) = some false)))))
theorem insB_ok {K : Frag} {x : Str} (h : insB K x = true) : InsTy K (ga K x) := by
  unfold insB at h
  obtain ⟨h1, h⟩ := ba h
  obtain ⟨h2, h⟩ := ba h
  obtain ⟨h3, h⟩ := ba h
  obtain ⟨h4, h⟩ := ba h
  obtain ⟨h5, h6⟩ := ba h
  exact ⟨cls_ok h1, eqO_ok h2, eqO_ok h3, of_decide_eq_true h4, of_decide_eq_true h5, fun T hT => of_decide_eq_true (List.all_eq_true.mp h6 T hT)⟩
def eqB (K : Frag) (x : Str) : Bool := insB K x && ((Fa.meth x "__eq__").ok K && (eqO (findIn K (.ref (ga K x)) "__ne__") (some (some (.builtin "object.__ne__"))) && tyNs.all fun T => notFirst K (ga K x) (.type T)))
theorem eqB_ok {P : Program} {w : World} {K : Frag} {mg : Str → Option Value} {base : Heap} {x : Str} {F : GF} {k : Nat} {fd : FuncData} {ps : List Str} [TabT] (h : eqB K x = true) (FN : FnG P w K mg base (L2.CX P w) k (ma K (ga K x) "__eq__") fd ps (spD K true [] F)) (b : Binds K fd ps []) : OwnEq P w K mg base (ga K x) F k := by
  unfold eqB at h
  obtain ⟨h1, h⟩ := ba h
  obtain ⟨h2, h⟩ := ba h
  obtain ⟨h3, h4⟩ := ba h
  have m := meth_ok h2
  exact ⟨⟨_, fd, ps, FN, b, m.at_, m.fn⟩, eqO_ok h3, insB_ok h1, fun T hT => List.all_eq_true.mp h4 T hT⟩
end
end GR
/-! JH -/
set_option linter.all false
set_option maxRecDepth 100000
set_option maxHeartbeats 0
/-! Stepping: lent slots, own ==, comprehensions over plain lists. -/
namespace GR
open PySem L2
section
variable {env : Env} {Q : R1 → Env → Prop} {fe fa fb : EF} {j : Nat} {e : Env}
def SBor (j : Nat) (ds : List D) (r : R1) (e : Env) (Q : R1 → Env → Prop) : Prop := ∃ d e2, r = .val d ∧ d.shallow = true ∧ e.set j (some (.lst ds)) = e2 ∧ Q (.val d) e2
theorem w_bor {ds : List D} (h0 : env[j]?.join = some (.lst ds)) (h : wO (fe env) fun r e => SBor j ds r e Q) : wO (fBor j fe env) Q := by
  obtain ⟨r, e, he, d, e2, rfl, hs, rfl, q⟩ := h
  unfold fBor
  rw [h0]
  simp only
  rw [he]
  exact ⟨_, _, by simp only; exact if_pos hs, q⟩
theorem s_bor {ds : List D} {d : D} {e2 : Env} (h1 : d.shallow = true) (h2 : e.set j (some (.lst ds)) = e2) (q : Q (.val d) e2) : SBor j ds (.val d) e Q := ⟨_, _, rfl, h1, h2, q⟩
def SEqO (neg : Bool) (C : Addr) (F : GF) (ra rb : R1) (e : Env) (Q : R1 → Env → Prop) : Prop := ∃ gs db, res ra e = some (.ins C gs) ∧ res rb e = some db ∧ ((tyD db).isSome || isIns C (some db)) = true ∧ argsFit [] [ra, rb] = true ∧
  ∃ b, F [.ins C gs, db] = some (.val (.bl b), []) ∧ Q (.val (.bl (neg != b))) e
theorem w_eqO {neg : Bool} {C : Addr} {F : GF} (h : wO (fa env) (kE Q fun ra e1 => wO (fb e1) (kE Q fun rb e2 => SEqO neg C F ra rb e2 Q))) : wO (fEqO neg C F fa fb env) Q := by
  unfold fEqO
  refine w_bind ?_
  refine h.mono fun ra e1 h => ?_
  have main : wO (fb e1) (kE Q fun rb e2 => SEqO neg C F ra rb e2 Q) → wO (bind1 fb (fun rb e2 => eqK neg C F ra rb e2) e1) Q := fun h => by
    refine w_bind ?_
    refine h.mono fun rb e2 h => ?_
    have main2 : SEqO neg C F ra rb e2 Q → wO (eqK neg C F ra rb e2) Q := fun ⟨gs, db, h1, h2, h3, h4, b, h5, q⟩ => by
      unfold eqK
      rw [h1]
      simp only [if_true]
      rw [h2]
      simp only
      rw [if_pos h3]
      have hr : ress [ra, rb] e2 = some [.ins C gs, db] := by unfold ress; rw [h1]; simp only; unfold ress; rw [h2]; rfl
      have c : callK true [] F [ra, rb] e2 = some (.val (.bl b), e2) := by
        unfold callK
        rw [hr]
        simp only
        rw [if_pos h4, h5]
        simp only
        rw [if_pos (by simp [D.imm])]
        rfl
      rw [c]
      exact ⟨_, _, rfl, q⟩
    cases rb with
    | exc C d => exact h
    | val d => exact main2 h
    | slot i => exact main2 h
  cases ra with
  | exc C d => exact h
  | val d => exact main h
  | slot i => exact main h
theorem s_eqO {neg : Bool} {C : Addr} {F : GF} {ra rb : R1} {gs : List (Str × D)} {db : D} {b : Bool} (h1 : res ra e = some (.ins C gs)) (h2 : res rb e = some db) (h3 : ((tyD db).isSome || isIns C (some db)) = true) (h4 : argsFit [] [ra, rb] = true) (h5 : F [.ins C gs, db] = some (.val (.bl b), [])) (q : Q (.val (.bl (neg != b))) e) : SEqO neg C F ra rb e Q := ⟨_, _, h1, h2, h3, h4, _, h5, q⟩
end
/-- each item's own, over the data of a plain list -/
theorem goComp_f {α : Type} {wl : List Nat} {gt : GT} {tc : TF} {fe : EF} {e0 : Env} (f : α → D) (keep : α → Bool) (val : α → D) : ∀ (l : List α), (∀ x ∈ l, ∃ e1 e2, gt (f x) e0 = some e1 ∧ tc e1 = some (.b (keep x), e2) ∧ (keep x = false → wipeE e2 wl = e0) ∧ (keep x = true → ∃ e3, fe e2 = some (.val (val x), e3) ∧ wipeE e3 wl = e0)) →
    goComp wl gt tc fe (l.map f) e0 = some ((l.filter keep).map val, e0)
  | [], _ => rfl
  | x :: l, h => by
    obtain ⟨e1, e2, h1, h2, h3, h4⟩ := h x List.mem_cons_self
    have ih := goComp_f f keep val l fun y hy => h y (List.mem_cons_of_mem _ hy)
    rw [List.map_cons]
    unfold goComp
    rw [h1]
    simp only
    rw [h2]
    cases k : keep x with
    | false =>
      simp only
      rw [h3 k, ih, List.filter_cons_of_neg (by simp [k])]
    | true =>
      obtain ⟨e3, h5, h6⟩ := h4 k
      simp only
      rw [h5]
      simp only
      rw [h6, ih, List.filter_cons_of_pos (by simp [k])]
      rfl
/-- all are kept -/
theorem goComp_y {α : Type} {wl : List Nat} {gt : GT} {fe : EF} {e0 : Env} (f : α → D) (val : α → D) (l : List α) (h : ∀ x ∈ l, ∃ e1 e3, gt (f x) e0 = some e1 ∧ fe e1 = some (.val (val x), e3) ∧ wipeE e3 wl = e0) :
    goComp wl gt fYes fe (l.map f) e0 = some (l.map val, e0) := by
  have := goComp_f (wl := wl) (gt := gt) (tc := fYes) (fe := fe) (e0 := e0) f (fun _ => true) val l fun x hx => by
    obtain ⟨e1, e3, h1, h2, h3⟩ := h x hx
    exact ⟨e1, e1, h1, rfl, fun z => Bool.noConfusion z, fun _ => ⟨e3, h2, h3⟩⟩
  rw [List.filter_eq_self.mpr (fun _ _ => rfl)] at this
  exact this
/-- two strictly ascending lists of the same things -/
theorem perm_asc {α : Type} {R : α → α → Prop} (irr : ∀ a b, R a b → ¬ R b a) : ∀ {l1 l2 : List α}, l1.Pairwise R → l2.Pairwise R → l1.Perm l2 → l1 = l2
  | [], l2, _, _, p => p.nil_eq
  | a :: l1, [], _, _, p => absurd p.symm.nil_eq (by simp)
  | a :: l1, b :: l2, h1, h2, p => by
    rw [List.pairwise_cons] at h1 h2
    have e : a = b := by
      rcases List.mem_cons.mp (p.mem_iff.mp List.mem_cons_self) with e | ha
      · exact e
      · rcases List.mem_cons.mp (p.mem_iff.mpr List.mem_cons_self) with e | hb
        · exact e.symm
        · exact absurd (h2.1 a ha) (irr _ _ (h1.1 b hb))
    subst e
    rw [perm_asc irr h1.2 h2.2 ((List.perm_cons a).mp p)]
theorem pairsOf_map : ∀ l : List (Int × Int), pairsOf (l.map pD) = some l
  | [] => rfl
  | (i, j) :: l => by
    have ih := pairsOf_map l
    show (match pairsOf (l.map pD) with
      | some ps => some ((i, j) :: ps)
      | none => none) = _
    rw [ih]
theorem gSorted_pairs : ∀ {l : List (Int × Int)}, gSorted [.lst (l.map pD)] = some (.lst ((sortP l).map pD))
  | [] => by
    have e : sortP [] = [] := (sortP_perm []).eq_nil
    have e2 : sortI [] = [] := (sortI_perm []).eq_nil
    rw [e]
    show (some (D.lst ((sortI []).map D.int)) : Option D) = _
    rw [e2]
    rfl
  | (i, j) :: l => by
    have h := pairsOf_map ((i, j) :: l)
    show (match pairsOf (((i, j) :: l).map pD) with
      | some ps => some (D.lst ((sortP ps).map pD))
      | none => none) = _
    rw [h]
end GR
/-! JI -/
set_option linter.all false
set_option maxRecDepth 100000
set_option maxHeartbeats 2000000
/-! d.get(k, 0). -/
namespace GR
open PySem L2
variable [TabT]
def getZ (ks : List (Key × D)) (i : Key) (z : D) : D := ((ks.find? fun kv => decide (kv.1 = i)).map Prod.snd).getD z
/-- d.get(k, z), z a constant -/
def fGet (z : Int) (fo fe : EF) : EF := bind1 fo fun ra e1 => match res ra e1 with
  | some (.dK _) => bind1 fe (fun rb e2 => match res ra e2, res rb e2 with
    | some (.dK ks), some (.int i) => some (.val (getZ ks (.inl i) (.int z)), e2)
    | some (.dK ks), some (.str i) => some (.val (getZ ks (.inr i) (.int z)), e2)
    | _, _ => none) e1
  | _ => none
section
variable {K : PySem.W.Frag} {g : Cfg} {W : WX} {tn ta tb : Bool} {fa fb : EF} {σ : St} {H : Hp} {Q : VK}
theorem get_rep {R : Reg} {H : Hp} {kvs : List (Key × V)} {ks : List (Key × D)} {z : Int} (e : kvs.map Prod.fst = ks.map Prod.fst) (r : Reps K H R (kvs.map Prod.snd) (ks.map Prod.snd)) (k : Key) : Rep K H R ((valV kvs k).getD (.int z)) (getZ ks k (.int z)) := by
  obtain ⟨h1, h2⟩ := find_rel e r k
  unfold getZ
  cases h : (ks.find? fun kv => decide (kv.1 = k)).map Prod.snd with
  | none => rw [h2 h]; exact .int
  | some d =>
    obtain ⟨v, hv, rv⟩ := h1 d h
    rw [hv]; exact rv
theorem get_rd {z : Int} (h : DEr K g W false (fGet z fa fb) σ H Q) : tDGet2 (DEr K g W ta fa) (DEr K g W tb fb) (fun σ H Q => Q (.int z) H) σ H Q := by
  obtain ⟨G, B, env, r0, env', ok, e, kv, kx⟩ := h.out
  refine bind1_use ok e (fun C d e1 _ eo a H' s ha => ?_) (fun z => nomatch z) (fun ra e1 x H1 _ _ ek s1 l1 _ => ?_)
  · cases eo; exact kx C d rfl a H' s ha
  · cases eda : res ra e1 with
    | none => rw [eda] at ek; cases ek
    | some da =>
      rw [eda] at ek
      cases da with
      | dK ks0 =>
        obtain ⟨p, kvs0, rfl, hp0, _⟩ := (l1.res s1.ok eda).dK
        refine ⟨p, rfl, .inl ⟨kvs0, hp0⟩, ?_⟩
        refine bind1_use s1.ok ek (fun C d e2 _ eo a H' s ha => ?_) (fun z => nomatch z) (fun rb e2 y H2 _ _ ek2 s2 l2 _ => ?_)
        · cases eo; exact kx C d rfl a H' (s1.trans s) ha
        · have s12 := s1.trans s2
          split at ek2
          · rename_i ks i ea eb
            cases ek2
            obtain ⟨p', kvs, hp', hp, ek, r⟩ := ((l1.stp s2).res s2.ok ea).dK
            cases hp'
            have ry := (l2.res s2.ok eb).int
            refine ⟨_, .inl ⟨kvs, .inl i, hp, ry, rfl⟩, ?_⟩
            exact kv _ H2 s12 (get_rep ek r _) fun _ _ q => Bool.noConfusion q
          · rename_i ks i ea eb
            cases ek2
            obtain ⟨p', kvs, hp', hp, ek, r⟩ := ((l1.stp s2).res s2.ok ea).dK
            cases hp'
            have ry := (l2.res s2.ok eb).str
            refine ⟨_, .inl ⟨kvs, .inr i, hp, ry, rfl⟩, ?_⟩
            exact kv _ H2 s12 (get_rep ek r _) fun _ _ q => Bool.noConfusion q
          · cases ek2
      | _ => cases ek
end
section
variable {X : Cx} {g : Cfg} {W : WX} {ta tb : Bool} {o e : Expr} {fa fb : EF} {apos cpos p : Pos} {z : Int} {k : Nat}
theorem de_get (hu : X.A.units + 1 < cLine) (ho : DE X g W ta o fa) (he : DE X g W tb e fb) (m : M2 X o "get" apos e (.Constant (.int z) k p) cpos := by exact ⟨rfl, rfl, rfl, rfl⟩) : DE X g W false (.Call (.Attribute o "get" apos) [e, .Constant (.int z) k p] [] cpos) (fGet z fa fb) :=
  (pe_dget2 hu ho he pe_int m).imp fun σ H Q h => get_rd h
end
end GR
/-! JK -/
set_option linter.all false
set_option maxRecDepth 100000
set_option maxHeartbeats 4000000
/-! A dict that a slot holds is walked: it is locked meanwhile. -/
namespace GR
open PySem L2
variable [TabT]
/-! ### unlocked again, all is as it was -/
section
variable {K : PySem.W.Frag} {H : Hp} {p : Addr} {od : Obj} {kvs : List (Key × V)}
theorem unl_ne (hp : H p = some (.frz od (.dK kvs))) {a : Addr} {o : HO} (e : H a = some o) (n : o ≠ .frz od (.dK kvs)) : upd H p (.dK kvs) a = some o := by
  have : a ≠ p := fun z => by rw [z, hp] at e; cases e; exact n rfl
  rw [upd_ne this]; exact e
theorem unl_sqt (hp : H p = some (.frz od (.dK kvs))) {a : Addr} {xs : List V} (h : SqT K H a xs) : SqT K (upd H p (.dK kvs)) a xs := by
  rcases h with (h | ⟨o, h⟩) | h
  · exact .inl (.inl (unl_ne hp h (fun z => nomatch z)))
  · exact .inl (.inr ⟨o, unl_ne hp h (fun z => by cases z)⟩)
  · exact .inr h
theorem unl_frl (hp : H p = some (.frz od (.dK kvs))) {a : Addr} {xs : List V} (h : SqLf K H a xs) : SqLf K (upd H p (.dK kvs)) a xs := by
  rcases h with ⟨o, h⟩ | h
  · exact .inl ⟨o, unl_ne hp h (fun z => by cases z)⟩
  · exact .inr h
theorem unl_dK (hp : H p = some (.frz od (.dK kvs))) {a : Addr} {ks : List (Key × V)} (h : Rd H a (.dK ks)) : Rd (upd H p (.dK kvs)) a (.dK ks) := by
  by_cases z : a = p
  · subst z
    rcases h with h | ⟨o, h⟩ <;> rw [hp] at h <;> cases h
    exact .inl upd_same
  · rcases h with h | ⟨o, h⟩
    · exact .inl (by rw [upd_ne z]; exact h)
    · exact .inr ⟨o, by rw [upd_ne z]; exact h⟩
end
mutual
theorem Rep.unl {K : PySem.W.Frag} {H : Hp} {p : Addr} {od : Obj} {kvs : List (Key × V)} {R : Reg} {v : V} {d : D} (hp : H p = some (.frz od (.dK kvs))) : Rep K H R v d → Rep K (upd H p (.dK kvs)) R v d
  | .non => .non
  | .bl => .bl
  | .int => .int
  | .str => .str
  | .ty => .ty
  | .gl => .gl
  | .tup h r => .tup (unl_sqt hp h) (r.unl hp)
  | .frl h => .frl (unl_frl hp h)
  | .lst q h r => .lst q (unl_ne hp h (fun z => nomatch z)) (r.unl hp)
  | .dK q h e r => .dK q (unl_dK hp h) e (r.unl hp)
  | .ins q h e r => .ins q (unl_ne hp h (fun z => nomatch z)) e (r.unl hp)
theorem Reps.unl {K : PySem.W.Frag} {H : Hp} {p : Addr} {od : Obj} {kvs : List (Key × V)} {R : Reg} {vs : List V} {ds : List D} (hp : H p = some (.frz od (.dK kvs))) : Reps K H R vs ds → Reps K (upd H p (.dK kvs)) R vs ds
  | .nil => .nil
  | .cons h r => .cons (h.unl hp) (r.unl hp)
end
theorem OwnAt.unl {K : PySem.W.Frag} {H : Hp} {p : Addr} {od : Obj} {kvs : List (Key × V)} {R : Reg} {q : Addr} (hp : H p = some (.frz od (.dK kvs))) : ∀ {d : D}, OwnAt K H R q d → OwnAt K (upd H p (.dK kvs)) R q d
  | .lst _, ⟨vs, h, r⟩ => ⟨vs, unl_ne hp h (fun z => nomatch z), r.unl hp⟩
  | .dK _, ⟨kvs, h, e, r⟩ => ⟨kvs, unl_ne hp h (fun z => nomatch z), e, r.unl hp⟩
  | .ins _ _, ⟨dx, fs, h, e, r⟩ => ⟨dx, fs, unl_ne hp h (fun z => nomatch z), e, r.unl hp⟩
/-! ### while an expression is read -/
def Gnd.lk (G : Gnd) (p : Addr) (o : HO) (hs : List Hold) : Gnd := ⟨G.A, G.pa, fun a => if a = p ∧ G.H0 p ≠ none then some o else G.H0 a, hs⟩
section
variable {K : PySem.W.Frag} {g : Cfg} {G : Gnd} {B B' : Nat → Reg} {H H' H1 H2 : Hp} {σ σ' : St} {env env' : Env} {p : Addr} {d d' : D} {v : V} {j : Nat} {od : Obj} {kvs : List (Key × V)} {ls : List Hold}
theorem lk_none {o : HO} {a : Addr} : (G.lk p o ls).H0 a = none ↔ G.H0 a = none := by
  show (if a = p ∧ G.H0 p ≠ none then some o else G.H0 a) = none ↔ _
  by_cases z : a = p ∧ G.H0 p ≠ none
  · rw [if_pos z]
    exact ⟨fun h => (by cases h), fun h => absurd (z.1 ▸ h) z.2⟩
  · rw [if_neg z]
theorem lk_ne {o : HO} {a : Addr} (h : a ≠ p) : (G.lk p o ls).H0 a = G.H0 a := if_neg fun z => h z.1
theorem lk_zr {o : HO} {a : Addr} : Zr (G.lk p o ls) g env σ a ↔ Zr G g env σ a := by
  show ((G.A a ∨ (G.lk p o ls).H0 a = none) ∧ _) ↔ ((G.A a ∨ G.H0 a = none) ∧ _)
  rw [lk_none]
theorem no_pa (ok : EnvOk K g G B σ H env) (hz : ¬ Live g env σ p) : ∀ i, (i, p) ∉ G.pa := fun i h => by
  obtain ⟨h1, h2, h3, d, h4⟩ := ok.io i p h
  exact hz ⟨i, d, h2, h4, h3⟩
theorem lk_fr (hp : H p = some (.dK kvs)) {R : Reg} : Fr R H (upd H p (.frz od (.dK kvs))) := fr_vary hp (.inr ⟨kvs, od, rfl, rfl⟩)
theorem EnvOk.lk (ok : EnvOk K g G B σ H env) (hp : H p = some (.dK kvs)) (hz : ¬ Live g env σ p) (ho : ∀ h, h ∈ ls ∨ h ∈ g.xh → h.P (upd H p (.frz od (.dK kvs))) (fun a => Zr G g env σ a ∧ B 16777216 a)) : EnvOk K g (G.lk p (.frz od (.dK kvs)) ls) B σ (upd H p (.frz od (.dK kvs))) env := by
  have zr : ∀ a, Zr G g env σ a → Zr (G.lk p (.frz od (.dK kvs)) ls) g env σ a := fun a => lk_zr.mpr
  exact {
    len := ok.len
    val := fun i di e n => by
      obtain ⟨u, h1, h2⟩ := ok.val i di e n
      exact ⟨u, h1, (h2.mono fun a x => ⟨zr a x.1, x.2⟩).fr (lk_fr hp)⟩
    own := fun i di e hi => by
      obtain ⟨q, h1, h2, h3, h4⟩ := ok.own i di e hi
      have nq : q ≠ p := fun y => hz ⟨i, di, hi, e, by rw [← y]; exact h1⟩
      exact ⟨q, h1, (h2.mono fun a x => ⟨zr a x.1, x.2⟩).fr (fun u hu => by rw [upd_ne nq]; exact hu) (lk_fr hp), h3, fun x => lk_none.mpr (h4 x)⟩
    io := ok.io
    ioall := ok.ioall
    apart := ok.apart
    base := fun a u n h => by
      by_cases z : a = p
      · subst z
        have h' : (if a = a ∧ G.H0 a ≠ none then some (HO.frz od (.dK kvs)) else G.H0 a) = some u := h
        by_cases y : G.H0 a = none
        · rw [if_neg (fun q => q.2 y), y] at h'; cases h'
        · rw [if_pos ⟨rfl, y⟩] at h'
          cases h'
          exact ⟨_, upd_same, .refl _⟩
      · rw [lk_ne z] at h
        rw [upd_ne z]
        exact ok.base a u n h
    tab := tabs_upd ok.tab (fun ps z => by rw [hp] at z; cases z) (fun c q z => by rw [hp] at z; unfold LamX.CodeO at z; cases z)
    dom := fun a h => by
      have z : a ≠ p := fun z => by rw [z, upd_same] at h; cases h
      rw [upd_ne z] at h
      exact lk_none.mpr (ok.dom a h)
    ap := ok.ap
    hold := fun h m => h.mono _ _ _ (ho h m) fun a x => ⟨zr a x.1, x.2⟩
    ex := ok.ex }
/-- .. as far as the heap goes, at the end -/
theorem EnvOk.unl (st : EnvOk K g (G.lk p (.frz od (.dK kvs)) ls) B σ' H' env') (hb : ∀ u, G.H0 p = some u → Up u (.dK kvs)) (hp : H' p = some (.frz od (.dK kvs)))
    (ho : ∀ h, h ∈ G.hs ∨ h ∈ g.xh → h.P (upd H' p (.dK kvs)) (fun a => Zr G g env' σ' a ∧ B 16777216 a)) : EnvOk K g G B σ' (upd H' p (.dK kvs)) env' := by
  have zr : ∀ a, Zr (G.lk p (.frz od (.dK kvs)) ls) g env' σ' a → Zr G g env' σ' a := fun a => lk_zr.mp
  exact {
    len := st.len
    val := fun i di e n => by
      obtain ⟨u, h1, h2⟩ := st.val i di e n
      exact ⟨u, h1, (h2.mono fun a x => ⟨zr a x.1, x.2⟩).unl hp⟩
    own := fun i di e hi => by
      obtain ⟨q, h1, h2, h3, h4⟩ := st.own i di e hi
      exact ⟨q, h1, (h2.mono fun a x => ⟨zr a x.1, x.2⟩).unl hp, h3, fun x => lk_none.mp (h4 x)⟩
    io := st.io
    ioall := st.ioall
    apart := st.apart
    base := fun a u n h => by
      by_cases z : a = p
      · subst z
        exact ⟨_, upd_same, hb u h⟩
      · rw [upd_ne z]
        exact st.base a u n (by rw [lk_ne z]; exact h)
    tab := tabs_upd st.tab (fun ps z => by rw [hp] at z; cases z) (fun c q z => by rw [hp] at z; unfold LamX.CodeO at z; cases z)
    dom := fun a h => by
      have z : a ≠ p := fun z => by rw [z, upd_same] at h; cases h
      rw [upd_ne z] at h
      exact lk_none.mp (st.dom a h)
    ap := st.ap
    hold := ho
    ex := st.ex }
theorem base_up (ok : EnvOk K g G B σ H env) (hp : H p = some (.dK kvs)) (hz : ¬ Live g env σ p) : ∀ u, G.H0 p = some u → Up u (.dK kvs) := fun u h => by
  obtain ⟨o, h1, h2⟩ := ok.base p u (no_pa ok hz) h
  rw [hp] at h1; cases h1; exact h2
theorem Stp.unl (ok : EnvOk K g G B σ H env) (hp : H p = some (.dK kvs)) (hz : ¬ Live g env σ p) (st : Stp K g (G.lk p (.frz od (.dK kvs)) ls) B σ (upd H p (.frz od (.dK kvs))) env H' env') :
    H' p = some (.frz od (.dK kvs)) ∧ Stp K g G B σ H env (upd H' p (.dK kvs)) env' := by
  have hp' : H' p = some (.frz od (.dK kvs)) := by
    obtain ⟨o', h1, h2⟩ := st.fr p _ (.inl hz) upd_same
    rw [h1, h2.frz]
  have fr : Fr (fun a => ¬ Live g env σ a) H (upd H' p (.dK kvs)) := fun a u h e => by
    by_cases z : a = p
    · subst z
      rw [hp] at e; cases e
      exact ⟨_, upd_same, Vary.refl _⟩
    · obtain ⟨o', h1, h2⟩ := st.fr a u h (by rw [upd_ne z]; exact e)
      exact ⟨o', by rw [upd_ne z]; exact h1, h2⟩
  have zr : ∀ a, Zr G g env σ a → Zr G g env' σ a := fun a ⟨h, n⟩ => ⟨h, fun q => n (st.live a q)⟩
  refine ⟨hp', ?_, fr, st.live, fun a h => ?_⟩
  · exact EnvOk.unl st.ok (base_up ok hp hz) hp' fun h m => h.mono _ _ _ (h.fr _ _ _ (ok.hold h m) (fr.mono fun a x => x.1.2)) fun a x => ⟨zr a x.1, x.2⟩
  · have z : a ≠ p := fun z => by rw [z, upd_same] at h; cases h
    rw [upd_ne z] at h
    have := st.dom a h
    rw [upd_ne z] at this
    exact this
end
end GR
/-! JL -/
set_option linter.all false
set_option maxRecDepth 100000
set_option maxHeartbeats 4000000
/-! Walks over a dict's keys. -/
namespace GR
open PySem L2
variable [TabT]
theorem for_imp {K : PySem.W.Frag} {g : Cfg} {W : WX} {tn : Bool} {fi : IF} {ft : GT} {sf : SF} {ts wl : List Nat} (hw : ∀ i ∈ wl, i ∉ g.io) {Dn : Ends} {σ : St} {H : Hp} (hd : DSr K g W tn (fFor wl fi ft sf) Dn σ H) : tFor (DIr K g W fi) (DGr K g ts ft) (DSr K g W tn sf) Dn σ H := by
  obtain ⟨G, env, fl, env', ok, e, q⟩ := hd
  unfold fFor at e
  cases e1 : fi env with
  | none => rw [e1] at e; cases e
  | some re =>
    obtain ⟨r, env1⟩ := re
    rw [e1] at e
    refine ⟨G, Top, env, r, env1, ok, e1, ?_⟩
    cases r with
    | exc C d => cases e; exact fun a H' s ha => q a σ H' s.ok ha
    | items ds =>
      intro J h H1 s hP go
      simp only at e
      have okw : EnvOk K g G Top σ H1 (wipeE env1 wl) := s.ok.dropL hw
      have zr0 : ∀ a, Zr G g env1 σ a → Zr G g (wipeE env1 wl) σ a := by
        have : ∀ {wl : List Nat} {env : Env} (a : Addr), Live g (wipeE env wl) σ a → Live g env σ a := by
          intro wl
          induction wl with
          | nil => intro env a l; exact l
          | cons i is ih =>
            intro env a l
            obtain ⟨j, d, h1, h2, h3⟩ := ih a l
            exact ⟨j, d, h1, (set_none_get h2).1, h3⟩
        exact fun a ⟨x, n⟩ => ⟨x, fun z => n (this a z)⟩
      have ok0 : EnvOk K g (G.with h) Top σ H1 (wipeE env1 wl) := okw.push (h.mono _ _ _ hP fun a x => ⟨zr0 a x, trivial⟩)
      refine ⟨fun i m σ H => m = ds.length - i ∧ i ≤ ds.length ∧ ∃ env0, EnvOk K g (G.with h) Top σ H env0 ∧ goFor wl ft sf (ds.drop i) env0 = some (fl, env'), ⟨_, rfl, Nat.zero_le _, _, ok0, by simpa using e⟩, ?_⟩
      rintro i m σ2 H2 ⟨rfl, hle, env0, ok2, e2⟩
      have hP2 := ok2.hold h (.inl List.mem_cons_self)
      by_cases hi : i < ds.length
      · refine .inr ⟨go.go i H2 _ hP2 hi, fun σ' H' => ∃ env0, EnvOk K g (G.with h) Top σ' H' env0 ∧ goFor wl ft sf (ds.drop (i + 1)) env0 = some (fl, env'), fun σ' H' ⟨env0, h1, h2⟩ => ⟨ds.length - (i + 1), by omega, rfl, by omega, env0, h1, h2⟩, ?_⟩
        intro x H3 hy
        obtain ⟨ex, d, hd, rd⟩ := go.yld i H2 _ x H3 (fun a ha => ⟨ok2.fresh ha, trivial⟩) hP2 hi hy
        rw [drop_cons hd] at e2
        unfold goFor at e2
        cases e3 : ft d env0 with
        | none => rw [e3] at e2; cases e2
        | some env3 =>
          rw [e3] at e2
          simp only at e2
          refine ⟨G.with h, Top, env0, d, env3, ok2.step ex, fun _ _ _ => trivial, rd.mono fun a x => x.1, e3, fun σ4 ok4 _ _ _ => ?_⟩
          cases e4 : sf env3 with
          | none => rw [e4] at e2; cases e2
          | some re4 =>
            obtain ⟨fl4, env4⟩ := re4
            rw [e4] at e2
            refine ⟨G.with h, env3, fl4, env4, ok4, e4, ?_⟩
            cases fl4 with
            | nx => exact fun σ5 H5 ok5 => ⟨_, ok5.dropL hw, e2⟩
            | cnt => exact fun σ5 H5 ok5 => ⟨_, ok5.dropL hw, e2⟩
            | brk => cases e2; exact fun σ5 H5 ok5 => q σ5 H5 ok5.pop
            | ret d => cases e2; exact SEnd.pop (fl := .ret d) q
            | exc C d => cases e2; exact SEnd.pop (fl := .exc C d) q
      · have : i = ds.length := by omega
        subst this
        rw [List.drop_length] at e2
        cases e2
        exact .inl ⟨go.stop H2 _ hP2, q σ2 H2 ok2.pop⟩

/-! ### the slot's dict, locked -/
def LockedAt (j : Nat) (σ : St) (H : Hp) : Prop := ∃ (p : Addr) (od : Obj) (kvs : List (Key × V)), σ[j]? = some (some (.ref p)) ∧ H p = some (.frz od (.dK kvs))
def keyItems : D → Option (List D)
  | .dK ks => some (ks.map fun kv => keyD kv.1)
  | _ => none
def holdL (p : Addr) (od : Obj) (kvs : List (Key × V)) : Hold where
  P H R := R p ∧ H p = some (.frz od (.dK kvs))
  fr H H' R h f := by
    obtain ⟨o', h', v⟩ := f p _ (.inl h.1) h.2
    exact ⟨h.1, by rw [h', v.frz]⟩
  mono H R R' h m := ⟨m p h.1, h.2⟩
  alloc H R h := ⟨⟨h.1, by rw [h.2]; exact fun z => by cases z⟩, h.2⟩
/-- what is held, of the heap with the lock taken off -/
def viaH (p : Addr) (od : Obj) (kvs : List (Key × V)) (h : Hold) : Hold where
  P H R := R p ∧ H p = some (.frz od (.dK kvs)) ∧ h.P (upd H p (.dK kvs)) R
  fr H H' R x f := by
    obtain ⟨h1, h2, h3⟩ := x
    obtain ⟨o', h', v⟩ := f p _ (.inl h1) h2
    refine ⟨h1, by rw [h', v.frz], h.fr _ _ _ h3 fun a u hr e => ?_⟩
    by_cases z : a = p
    · subst z
      rw [upd_same] at e; cases e
      exact ⟨_, upd_same, Vary.refl _⟩
    · rw [upd_ne z] at e
      obtain ⟨o2, h4, v2⟩ := f a u hr e
      exact ⟨o2, by rw [upd_ne z]; exact h4, v2⟩
  mono H R R' x m := ⟨m p x.1, x.2.1, h.mono _ _ _ x.2.2 m⟩
  alloc H R x := by
    obtain ⟨h1, h2, h3⟩ := x
    have n : H p ≠ none := by rw [h2]; exact fun z => by cases z
    refine ⟨⟨h1, n⟩, h2, h.mono _ _ _ (h.alloc _ _ h3) fun a y => ⟨y.1, fun z => y.2 ?_⟩⟩
    have : a ≠ p := fun q => n (by rw [← q]; exact z)
    rw [upd_ne this]; exact z
theorem goes_keys {K : PySem.W.Frag} {p : Addr} {od : Obj} {kvs : List (Key × V)} {ks : List (Key × D)} (ek : kvs.map Prod.fst = ks.map Prod.fst) : Goes K (Itk p od kvs) (ks.map fun kv => keyD kv.1) (holdL p od kvs).P where
  go i H R h hi := ⟨h.2, by
    have := congrArg List.length ek
    simp only [List.length_map] at this hi
    omega⟩
  stop H R h := ⟨h.2, by
    have := congrArg List.length ek
    simp only [List.length_map] at this ⊢
    omega⟩
  yld i H R x H' _ h hi y := by
    obtain ⟨rfl, k, v, h1, rfl⟩ := y
    refine ⟨fun a o e => e, keyD k, ?_, key_rep k⟩
    have e1 : (kvs.map Prod.fst)[i]? = some k := by rw [List.getElem?_map, h1]; rfl
    rw [ek, List.getElem?_map] at e1
    rw [List.getElem?_map]
    cases q : ks[i]? with
    | none => rw [q] at e1; cases e1
    | some kd =>
      rw [q] at e1
      have : kd.1 = k := Option.some.inj e1
      rw [← this]; rfl
section
variable {X : Cx} {g : Cfg} {W : WX} {tg : Expr} {pos : Pos}
theorem pi_keysJ (j : Nat) {x : Str} (hj : j ∉ g.own := by walk_at "gmem") (hN : X.N[j]? = some x := by rfl) (hv : Vis X.env.scope x := by first | exact Or.inl rfl | exact Or.inr (Or.inl rfl) | exact Or.inr (Or.inr rfl)) (hd : (x == ("__debug__" : Str)) = false := by decide) (hcd : (x == ("__classdict__" : Str)) = false := by decide) :
    PI X tg (.Name x pos) (fun σ H R => DIr X.K g W (fItems keyItems (fVar j)) σ H R ∧ LockedAt j σ H) :=
  ⟨fun pins s σ H R I h => (pi_keys (pv j hN hv hd hcd)).run pins s σ H R I (by
    obtain ⟨⟨G, B, env, r, env', ok, e, q⟩, p, od, kvs, hs, hp⟩ := h
    unfold fItems fVar at e
    cases e1 : env[j]?.join with
    | none => rw [e1] at e; cases e
    | some d =>
      rw [e1] at e
      simp only at e
      cases d with
      | dK ks =>
        simp only [keyItems] at e
        cases e
        obtain ⟨v, h1, h2⟩ := ok.val j _ (join_of e1) hj
        rw [hs] at h1; cases h1
        cases h2 with
        | dK qr hr ek rr =>
          rename_i kvs'
          have : kvs' = kvs := by
            rcases hr with hr | ⟨o, hr⟩ <;> rw [hp] at hr <;> cases hr
            rfl
          subst this
          exact ⟨.ref p, hs, p, od, rfl, .inl ⟨kvs', hp, q (Itk p od kvs') (holdL p od kvs') H (Stp.refl ok) ⟨qr.1, hp⟩ (goes_keys ek)⟩⟩
      | _ => simp only [keyItems] at e; cases e)⟩
end
end GR
/-! JM -/
set_option linter.all false
set_option maxRecDepth 100000
set_option maxHeartbeats 4000000
/-! for k in d; [.. for k in d]. -/
namespace GR
open PySem L2
variable [TabT]
theorem _root_.L2.PS.or {X : Cx} {e : Stmt} {t1 t2 : TS} (h1 : PS X e t1) (h2 : PS X e t2) : PS X e (fun D σ H => t1 D σ H ∨ t2 D σ H) := ⟨fun pins s σ H D I q => q.elim (h1.run pins s σ H D I) (h2.run pins s σ H D I)⟩
theorem _root_.L2.PE.or {X : Cx} {e : Expr} {t1 t2 : TE} (h1 : PE X e t1) (h2 : PE X e t2) : PE X e (fun σ H Q => t1 σ H Q ∨ t2 σ H Q) := ⟨fun pins s σ H Q I q => q.elim (h1.run pins s σ H Q I) (h2.run pins s σ H Q I)⟩
def fForK (j : Nat) (wl : List Nat) (ft : GT) (sf : SF) : SF := fun env => match env[j]?.join with
  | some (.dK _) => (match fFor wl (fItems keyItems (fVar j)) ft sf env with
    | some (.nx, e) => some (.nx, e)
    | _ => none)
  | _ => none
section
variable {K : PySem.W.Frag} {g : Cfg} {G : Gnd} {B : Nat → Reg} {H : Hp} {σ : St} {env : Env} {p : Addr} {od : Obj} {kvs : List (Key × V)}
/-- the ground while a statement runs under the lock -/
def Gnd.lkS (G : Gnd) (p : Addr) (od : Obj) (kvs : List (Key × V)) : Gnd := G.lk p (.frz od (.dK kvs)) (holdL p od kvs :: G.hs.map (viaH p od kvs))
theorem EnvOk.lkS (ok : EnvOk K g G Top σ H env) (hp : H p = some (.dK kvs)) (hz : Zr G g env σ p) (hxh : g.xh = []) : EnvOk K g (G.lkS p od kvs) Top σ (upd H p (.frz od (.dK kvs))) env := by
  refine ok.lk hp hz.2 fun h m => ?_
  rw [hxh] at m
  rcases m with m | m
  · rcases List.mem_cons.mp m with rfl | m
    · exact ⟨⟨hz, trivial⟩, upd_same⟩
    · obtain ⟨h0, hm, rfl⟩ := List.mem_map.mp m
      refine ⟨⟨hz, trivial⟩, upd_same, ?_⟩
      have e : upd (upd H p (.frz od (.dK kvs))) p (.dK kvs) = H := by
        funext a
        by_cases z : a = p
        · subst z; rw [upd_same, hp]
        · rw [upd_ne z, upd_ne z]
      rw [e]
      exact ok.hold h0 (.inl hm)
  · cases m
theorem EnvOk.unS {σ' : St} {H' : Hp} {env' : Env} (st : EnvOk K g (G.lkS p od kvs) Top σ' H' env') (hb : ∀ u, G.H0 p = some u → Up u (.dK kvs)) (hxh : g.xh = []) : H' p = some (.frz od (.dK kvs)) ∧ EnvOk K g G Top σ' (upd H' p (.dK kvs)) env' := by
  obtain ⟨_, hp⟩ := st.hold (holdL p od kvs) (.inl List.mem_cons_self)
  refine ⟨hp, EnvOk.unl st hb hp fun h m => ?_⟩
  rcases m with m | m
  · obtain ⟨_, _, x⟩ := st.hold (viaH p od kvs h) (.inl (List.mem_cons_of_mem _ (List.mem_map.mpr ⟨h, m, rfl⟩)))
    exact h.mono _ _ _ x fun a y => ⟨lk_zr.mp y.1, y.2⟩
  · rw [hxh] at m; cases m
end
section
variable {X : Cx} {g : Cfg} {W : WX} {tn tn' : Bool} {tg : Expr} {body : List Stmt} {ft : GT} {sf : SF} {pos pos2 : Pos}
theorem ds_forK (j : Nat) {x : Str} (wl ts : List Nat) (hp : PassesOwn (model X.prog X.w) X.A X.env X.xe) (hc : X.calm = true) (hg : DG X g ts tg ft) (hb : DSs X g W tn body sf) (hw : ∀ i ∈ wl, i ∉ g.io := by walk_at "gmem") (hxh : g.xh = [] := by rfl)
    (hj : j ∉ g.own := by walk_at "gmem") (hN : X.N[j]? = some x := by rfl) (hv : Vis X.env.scope x := by first | exact Or.inl rfl | exact Or.inr (Or.inl rfl) | exact Or.inr (Or.inr rfl)) (hd : (x == ("__debug__" : Str)) = false := by decide) (hcd : (x == ("__classdict__" : Str)) = false := by decide)
    (hs : ∀ y, foldedSetIterable (.Name x pos2) X.env y = pure y := by intro _; rfl) : DS X g W tn (.For tg (.Name x pos2) body [] pos) (fForK j wl ft sf) := by
  have ps := ps_for (pos := pos) hp hc (pi_keysJ (g := g) (W := W) (tg := tg) (pos := pos2) j hj hN hv hd hcd) hg hb hs
  refine ((L2.PS.or (ps_lock ps) ps)).imp fun Dn σ H ⟨G, env, fl, env', ok, e, q⟩ => ?_
  unfold fForK at e
  split at e
  · rename_i ks hq
    split at e
    · rename_i e1 hf
      cases e
      obtain ⟨v, h1, h2⟩ := ok.val j _ (join_of hq) hj
      cases h2 with
      | dK qr hr ek rr =>
        rename_i p kvs
        rcases hr with hr | ⟨od, hr⟩
        · refine .inl ⟨p, .dK kvs, hr, trivial, fun od => ⟨for_imp hw ⟨G.lkS p od kvs, env, .nx, env', ok.lkS hr qr.1 hxh, hf, fun σ' H' okk => ?_⟩, p, od, kvs, h1, upd_same⟩⟩
          obtain ⟨hp', ok2⟩ := EnvOk.unS okk (base_up ok hr qr.1.2) hxh
          exact ⟨hp', q σ' _ ok2⟩
        · exact .inr ⟨for_imp hw ⟨G, env, .nx, env', ok, hf, q⟩, p, od, kvs, h1, hr⟩
    · cases e
  · cases e
end
/-! ### comprehensions -/
section
variable {X : Cx} {g : Cfg} {W : WX} {tn tn' : Bool} {elt tg : Expr} {ifs : List Expr} {scope : Scope} {pos pos2 : Pos} {ft : GT} {fc : TF} {fe : EF} {x : Str}
theorem pk_comp (j : Nat) (own : List (Str × Nat)) (hc : X.calm = true) (hN : X.N.Nodup) (ok : BlkOk X.N X.env.scope scope own)
    (hg : ∀ (s : Shared) (H : Hp) (C : Addr) (cl : List (Str × Addr)) (fp : List Addr), DG (X.blk s H scope (compEnvC scope cl C X.env) fp) g (own.map (·.2)) tg ft)
    (ht : ∀ (s : Shared) (H : Hp) (C : Addr) (cl : List (Str × Addr)) (fp : List Addr), DTs (X.blk s H scope (compEnvC scope cl C X.env) fp) g ifs fc)
    (he : ∀ (s : Shared) (H : Hp) (C : Addr) (cl : List (Str × Addr)) (fp : List Addr), DE (X.blk s H scope (compEnvC scope cl C X.env) fp) g W0 tn' elt fe)
    (hw : (own.all fun x => !g.io.contains x.2) = true := by rfl) (hwo : (own.all fun x => !g.own.contains x.2) = true := by rfl) (h16 : 16777216 ∉ own.map (·.2) := by decide) (hxw : (g.ex.all fun x => !(own.map (·.2)).contains x.1) = true := by rfl)
    (hj : j ∉ g.own := by walk_at "gmem") (hNj : X.N[j]? = some x := by rfl) (hv : Vis X.env.scope x := by first | exact Or.inl rfl | exact Or.inr (Or.inl rfl) | exact Or.inr (Or.inr rfl)) (hd : (x == ("__debug__" : Str)) = false := by decide) (hcd : (x == ("__classdict__" : Str)) = false := by decide)
    (hs : ∀ y, foldedSetIterable (.Name x pos2) X.env y = pure y := by intro _; rfl) :
    PE X (.ListComp elt [⟨tg, .Name x pos2, ifs, 0⟩] scope pos) (fun σ H Q => DEr X.K g W true (fComp (own.map (·.2)) (fItems keyItems (fVar j)) ft fc fe) σ H Q ∧ LockedAt j σ H) :=
  (pe_lc (g := DGr X.K g (own.map fun p : Str × Nat => p.2) ft) (tt := DTr X.K g W0 fc) (te := DEr X.K g W0 tn' fe) hc hN (pi_keysJ (g := g) (W := W) (tg := tg) (pos := pos2) j hj hNj hv hd hcd) ok hg ht he hs).imp fun σ H Q h => ⟨comp_rd (nall hw) (nall hwo) h16 (exall hxw) h.1, h.2⟩
end
/-- f, while the slot's dict is locked -/
def fLck (j : Nat) (f : EF) : EF := fun env => match env[j]?.join with
  | some (.dK _) => (match f env with
    | some (.val d, e) => some (.val d, e)
    | _ => none)
  | _ => none
section
variable {X : Cx} {g : Cfg} {W : WX} {tn : Bool} {e : Expr} {f : EF}
theorem de_lck (j : Nat) (h : PE X e (fun σ H Q => DEr X.K g W tn f σ H Q ∧ LockedAt j σ H)) (hj : j ∉ g.own := by walk_at "gmem") : DE X g W tn e (fLck j f) :=
  (L2.PE.or (pe_lock h) h).imp fun σ H Q hh => by
    obtain ⟨G, B, env, r, env', ok, ee, k, _⟩ := hh.out
    unfold fLck at ee
    split at ee
    · rename_i ks hq
      split at ee
      · rename_i d e1 hf
        cases ee
        obtain ⟨v, h1, h2⟩ := ok.val j _ (join_of hq) hj
        cases h2 with
        | dK qr hr ek rr =>
          rename_i p kvs
          have hz := qr.1.2
          rcases hr with hr | ⟨od, hr⟩
          · refine .inl ⟨p, .dK kvs, hr, trivial, fun od => ⟨?_, p, od, kvs, h1, upd_same⟩⟩
            have ok1 : EnvOk X.K g (G.lk p (.frz od (.dK kvs)) G.hs) B σ (upd H p (.frz od (.dK kvs))) env := ok.lk hr hz fun h m => h.fr _ _ _ (ok.hold h m) (lk_fr hr)
            refine DEr.intro ok1 hf (fun v H' s l n => ?_) fun C d q => nomatch q
            obtain ⟨hp', st⟩ := Stp.unl ok hr hz s
            have l : Rep X.K H' (Zr (G.lk p (.frz od (.dK kvs)) G.hs) g env' σ) v d := l
            refine ⟨hp', k v _ st ((l.mono fun a => lk_zr.mp).unl hp') fun d' hd ht => ?_⟩
            have nv := n d' hd ht
            intro q eq
            obtain ⟨n1, n2⟩ := nv q eq
            have ne : q ≠ p := fun z => by rw [z, upd_same] at n1; cases n1
            rw [upd_ne ne] at n1
            exact ⟨n1, fun o u => by rw [upd_ne ne]; exact n2 o u⟩
          · refine .inr ⟨DEr.intro ok hf (fun v H1 s l n => k v H1 s l n) (fun C d q => nomatch q), p, od, kvs, h1, hr⟩
      · cases ee
    · cases ee
end
section
variable {K : PySem.W.Frag} {g : Cfg} {W : WX} {f : EF} {j : Nat} {σ : St} {H : Hp} {Q : VK}
theorem borK_rd (hj : j ∈ g.own) (hx : exFree g j = true) (h16 : j ≠ 16777216) (h : DEr K g W true (fBorD j f) σ H Q) : ∃ p, ∃ d u, H d = some u ∧ Mut (some u) ∧ ∀ od, DEr K (g.wo j p) W true f σ (upd H d (.frz od u)) (fun v H' => H' d = some (.frz od u) ∧ Q v (upd H' d u)) ∧ LockedAt j σ (upd H d (.frz od u)) := by
  obtain ⟨G, B, env, r, env', ok, e, k, _⟩ := h.out
  unfold fBorD at e
  split at e
  · rename_i ks hq
    split at e
    · rename_i d e1 hf
      split at e
      · rename_i sh
        cases e
        have he := join_of hq
        obtain ⟨p, hs, ow, _⟩ := ok.own j _ he hj
        obtain ⟨kvs, hp, _⟩ := id ow
        have bo : Box (.dK kvs) := .inr (.inl ⟨_, rfl⟩)
        refine ⟨p, p, .dK kvs, hp, trivial, fun od => ⟨?_, p, od, kvs, hs, upd_same⟩⟩
        have va : Vary (.dK kvs) (.frz od (.dK kvs)) := .inr ⟨kvs, od, rfl, rfl⟩
        have ns : ¬ Stay (.frz od (.dK kvs)) := fun q => q
        have nt : ∀ ps, HO.frz od (.dK kvs) ≠ .tbl ps := fun _ q => nomatch q
        have ok1 := ok.wo hj hx h16 he hs hp bo va nt
        refine DEr.intro ok1 hf (fun v H' s l n => ?_) fun C d q => nomatch q
        obtain ⟨hp', st⟩ := ok.woBack hj hx h16 he hs hp bo va nt ns s
        obtain ⟨r1, r2⟩ := bor_rep ok hj he hs hp ns hp' st sh (n d rfl rfl) (show Rep K H' _ v d from l)
        exact ⟨hp', k v _ st r1 fun _ _ _ => r2⟩
      · cases e
    · cases e
  · cases e
end
section
variable {X : Cx} {g : Cfg} {W : WX} {e : Expr} {f : EF}
theorem de_borK (j : Nat) (h : ∀ p, PE X e (fun σ H Q => DEr X.K (g.wo j p) W true f σ H Q ∧ LockedAt j σ H)) (hj : j ∈ g.own := by walk_at "gmem") (hx : exFree g j = true := by rfl) (h16 : j ≠ 16777216 := by decide) : DE X g W true e (fBorD j f) :=
  (L2.PE.ex fun p => pe_lock (h p)).imp fun σ H Q q => borK_rd hj hx h16 q
end
end GR
/-! JN -/
set_option linter.all false
set_option maxRecDepth 100000
set_option maxHeartbeats 4000000
/-! sorted(d.items()), keys and values ints. -/
namespace GR
open PySem PySem.Spec PyProof.Rows L2
section
variable {X : Cx}
/-- the view of a dict of ints and texts -/
def rItemsK : V → List V → Hp → VK → Prop := fun x xs H Q => ∃ (a : Addr) (kvs : List (Key × V)), x = .ref a ∧ xs = [] ∧ Rd H a (.dK kvs) ∧ ∀ p, H p = none → Q (.ref p) (upd H p (DX.itemsO p a))
theorem mt_itemsK : MtR X "dict.items" rItemsK := by
  intro pins s σ H x xs v us Q I rx rxs h
  obtain ⟨a, kvs, rfl, rfl, ha, q⟩ := h
  cases rx
  cases rxs
  obtain ⟨z, hd, vs, rel, o, es, ep, ho, hx, hdat, _⟩ := dk_rd I.hok ha
  refine DT.callItems (es := es) (ep := ep) hd ⟨o, ho, hx, hdat⟩ ?_
  have hf : H s.heap.objs.size = none := I.hok.fresh (Nat.le_refl _)
  exact ⟨.ref s.heap.objs.size, upd H s.heap.objs.size (DX.itemsO s.heap.objs.size a), I.laid (t' := s.toks) (fun b u e => Heap.get?_push_of_some _ e) (Nat.le_refl _) (DX.itemsO_ok (Heap.get?_push_size _ rfl)), rfl, q _ hf⟩
abbrev entI (p : Int × Int) : Key × V := (.inl p.1, .int p.2)
def rSortIK : List V → Hp → VK → Prop := fun vs H Q => ∃ (p a : Addr) (ps : List (Int × Int)), vs = [.ref p] ∧ H p = some (DX.itemsO p a) ∧ Rd H a (.dK (ps.map entI)) ∧
  ∀ (H' : Hp) (l : Addr) (zs : List (Addr × Int × Int)), (∀ b o, H b = some o → H' b = some o) → (zs.map (·.2)).Perm ps → (zs.map (·.2)).Pairwise (fun a b => leP a b = true) → H l = none → H' l = some (.lst (zs.map fun z => V.ref z.1)) →
    (∀ z ∈ zs, H z.1 = none ∧ H' z.1 = some (.tup [.int z.2.1, .int z.2.2])) → Q (.ref l) H'
theorem pairs_at {P : Program} {w : World} : ∀ {es : List DictEntry} {kvs : List (Key × Value)} {j : Nat} {e : DictEntry}, Pairs (mixKind P w) es kvs → es[j]? = some e → ∃ kv, kvs[j]? = some kv ∧ (mixKind P w).is kv.1 e.key = true ∧ e.val = kv.2
  | _, _, 0, e, .cons h1 h2 _, h => by
    have e1 := Option.some.inj (show some _ = some e from h)
    rw [← e1]
    exact ⟨_, rfl, h1, h2⟩
  | _, _, j + 1, e, .cons _ _ t, h => by
    obtain ⟨kv, k1, k2⟩ := pairs_at (j := j) t (by simpa using h)
    exact ⟨kv, by simpa using k1, k2⟩
  | _, _, 0, _, .nil, h => by simp at h
  | _, _, _ + 1, _, .nil, h => by simp at h
open Classical in
theorem cr_sortedIK (hc : X.calm = true) : CallR X (.builtin "sorted") rSortIK := by
  intro pins s σ H xs us Q I r h
  obtain ⟨p, a, ps, rfl, hp, ha, q⟩ := h
  obtain ⟨u, rfl, ru⟩ := vals1 r
  obtain rfl : u = Value.ref p := ru
  have view : s.heap.IsItemsView p a := (show ObjOk X.prog X.w H s.heap p (DX.itemsO p a) from I.hok p _ hp).1
  obtain ⟨z, hd, vs', rel, o, es, ep, ho, hx, hdat, hko, hpr, hn⟩ := dk_rd I.hok ha
  have l1 : (ps.map entI).length = vs'.length := KV.length rel
  rw [List.length_map] at l1 z
  have l2 : es.size = vs'.length := by rw [← Array.length_toList]; exact hpr.length
  have hh : X.A.handled = none := I.ok.hd hc
  refine DT.sortedI (es := es) (ep := ep) hh view ⟨o, ho, hx, hdat⟩ (by omega) fun h' tk as hk hlt hl hG => ?_
  have lak : as.length = ps.length := by omega
  have nd : as.Nodup := List.Pairwise.imp (fun h => Nat.ne_of_lt h) hG.rise
  -- the pairs that were made
  have pr : ∀ (j : Nat) (b : Addr), as[j]? = some b → ∃ (e : Int × Int) (t1 t2 : _), ps[j]? = some e ∧ h'.get? b = some { cls := .type "tuple", data := .seq #[Value.int e.1 t1, Value.int e.2 t2] } := by
    intro j b hj
    obtain ⟨en, he, hg⟩ := hG.pairs j b hj
    rw [← Array.getElem?_toList] at he
    obtain ⟨kv, hkv, k1, k2⟩ := pairs_at hpr he
    obtain ⟨g0, g1, g2, g3⟩ := DX.pget rel hkv
    rw [List.getElem?_map] at g1
    cases hpj : ps[j]? with
    | none => rw [hpj] at g1; exact nomatch (show (none : Option (Key × V)) = some g0 from g1)
    | some e =>
      rw [hpj] at g1
      have ee : entI e = g0 := Option.some.inj g1
      subst ee
      have ek : kv.1 = .inl e.1 := g2.symm
      rw [ek] at k1
      obtain ⟨t1, e1⟩ : ∃ t, en.key = Value.int e.1 t := relV_key (k := .inl e.1) (show keyIs (.inl e.1) en.key = true from k1)
      obtain ⟨t2, e2⟩ : ∃ t, kv.2 = Value.int e.2 t := g3
      refine ⟨e, t1, t2, rfl, ?_⟩
      rw [hg, e1, k2, e2]
  have hob : (h'.push { cls := .type "list", data := .seq (as.map Value.ref).toArray }).get? h'.objs.size = some (seqObj "list" (as.map Value.ref).toArray 0) := Heap.get?_push_size _ rfl
  have kb : ∀ b o, s.heap.get? b = some o → (h'.push { cls := .type "list", data := .seq (as.map Value.ref).toArray }).get? b = some o := fun b o e => Heap.get?_push_of_some _ (hk b o e)
  have ne0 : ∀ b o, h'.get? b = some o → b ≠ h'.objs.size := fun b o e => Nat.ne_of_lt (Heap.lt_size e)
  generalize hh2 : h'.push { cls := .type "list", data := .seq (as.map Value.ref).toArray } = h2 at hob kb ⊢
  have ka : ∀ b o, h'.get? b = some o → h2.get? b = some o := fun b o e => by rw [← hh2]; exact Heap.get?_push_of_some _ e
  -- the pair of a value
  obtain ⟨k, hkk⟩ : ∃ k : Value → Int × Int, ∀ (j : Nat) (b : Addr) (e : Int × Int), as[j]? = some b → ps[j]? = some e → k (.ref b) = e := by
    refine ⟨fun v => if h : ∃ e : Int × Int, ∃ (j : Nat) (b : Addr), v = Value.ref b ∧ as[j]? = some b ∧ ps[j]? = some e then Classical.choose h else (0, 0), fun j b e hj he => ?_⟩
    have ex : ∃ e : Int × Int, ∃ (j : Nat) (b' : Addr), Value.ref b = Value.ref b' ∧ as[j]? = some b' ∧ ps[j]? = some e := ⟨e, j, b, rfl, hj, he⟩
    simp only [dif_pos ex]
    obtain ⟨j2, b2, e2, hj2, he2⟩ := Classical.choose_spec ex
    cases e2
    have eij : j = j2 := (List.getElem?_inj (List.getElem?_eq_some_iff.mp hj).1 nd).mp (hj.trans hj2.symm)
    subst eij
    exact Option.some.inj (he2.symm.trans he)
  have at_ : ∀ v ∈ as.map Value.ref, ∃ (j : Nat) (b : Addr) (e : Int × Int) (t1 t2 : _), v = .ref b ∧ as[j]? = some b ∧ ps[j]? = some e ∧ h'.get? b = some { cls := .type "tuple", data := .seq #[Value.int e.1 t1, Value.int e.2 t2] } := by
    intro v hv'
    obtain ⟨b, hb, rfl⟩ := List.mem_map.mp hv'
    obtain ⟨j, hj⟩ := List.mem_iff_getElem?.mp hb
    obtain ⟨e, t1, t2, he, hg⟩ := pr j b hj
    exact ⟨j, b, e, t1, t2, rfl, hj, he, hg⟩
  refine wpAny_call_entry PyProof.Rows.slot_list_sort ⟨_, hob, rfl⟩ PyProof.Rows.entry_list_sort
    (SrtO.list_sort_ord (s := { s with heap := h2, toks := tk }) (SrtO.swo_lex k) hob (by rw [List.length_map]; omega) (fun h2' => SrtO.pairs_sortableO (s := { s with heap := h2, toks := tk }) (by omega) (fun v hv' => ?_) fun o e => ?_) fun out o1 o2 => ⟨.none, rfl, ?_⟩) (PyProof.Rows.args_list_sort _)
  · obtain ⟨j, b, e, t1, t2, rfl, hj, he, hg⟩ := at_ v hv'
    rw [hkk j b e hj he]
    exact ⟨b, _, t1, t2, 0, rfl, ka _ _ hg, rfl, rfl⟩
  · have e' : some o = some (seqObj "list" (as.map Value.ref).toArray 0) := e.symm.trans hob
    cases e'
    intro c
    exact absurd (Value.type.inj c) (by decide)
  · show EP X pins σ Q (.ref h'.objs.size) { s with heap := sortedHeap h2 h'.objs.size (as.map Value.ref) out.toArray, toks := tk }
    have mz : (as.zip ps).map (fun z => Value.ref z.1) = as.map Value.ref := by
      have : (as.zip ps).map (·.1) = as := List.map_fst_zip (by omega)
      conv => rhs; rw [← this]
      rw [List.map_map]; rfl
    have hperm0 : out.Perm ((as.zip ps).map fun z => Value.ref z.1) := by rw [mz]; exact o2.perm
    obtain ⟨zs, pz, ez⟩ := perm_up hperm0
    have idx : ∀ z ∈ zs, ∃ j : Nat, as[j]? = some z.1 ∧ ps[j]? = some z.2 := by
      intro z' hz'
      obtain ⟨j, hj⟩ := List.mem_iff_getElem?.mp (pz.mem_iff.mp hz')
      exact ⟨j, List.getElem?_zip_eq_some.mp hj⟩
    have hperm : (zs.map (·.2)).Perm ps := by
      have e := pz.map (·.2)
      have m2 : (as.zip ps).map (·.2) = ps := List.map_snd_zip (by omega)
      rw [m2] at e
      exact e
    have hsort : (zs.map (·.2)).Pairwise (fun e f => leP e f = true) := by
      have o1' : out.Pairwise fun x y => SrtO.lexB (k y) (k x) = false := o1
      rw [← ez, List.pairwise_map] at o1'
      rw [List.pairwise_map]
      refine List.Pairwise.imp_of_mem (fun {x y} hx hy h => ?_) o1'
      obtain ⟨j, j1, j2⟩ := idx x hx
      obtain ⟨i, i1, i2⟩ := idx y hy
      have h3 := SrtO.lexB_no.mp h
      rw [hkk j _ _ j1 j2, hkk i _ _ i1 i2] at h3
      rw [leP_iff]
      omega
    have kF : ∀ b o, b ≠ h'.objs.size → h2.get? b = some o → (sortedHeap h2 h'.objs.size (as.map Value.ref) out.toArray).get? b = some o := fun b o hb e => (PyProof.Rows.sortedHeap_old hb (Heap.lt_size e)).trans e
    have kS : ∀ b o, s.heap.get? b = some o → (sortedHeap h2 h'.objs.size (as.map Value.ref) out.toArray).get? b = some o := fun b o e => kF b o (ne0 _ _ (hk b o e)) (kb b o e)
    obtain ⟨eF, heF⟩ := PyProof.Rows.sortedHeap_at (vs := as.map Value.ref) (out := out.toArray) hob
    have I1 : Inv X pins σ H { s with heap := sortedHeap h2 h'.objs.size (as.map Value.ref) out.toArray, toks := tk } := I.kept (t' := tk) kS
    have hn0 : H h'.objs.size = none := I.hok.fresh (Nat.le_of_lt hlt)
    have hlen : (zs.map fun z => V.ref z.1).length ≤ sizeLine := by
      have e := hperm.length_eq
      rw [List.length_map] at e
      rw [List.length_map]
      omega
    have rv : Vals (zs.map fun z => V.ref z.1) out := by
      rw [← ez]
      exact L2.vals_maps (fun z : Addr × Int × Int => V.ref z.1) (fun z => Value.ref z.1) zs fun _ _ => rfl
    have I2 : Inv X pins σ (upd H h'.objs.size (.lst (zs.map fun z => V.ref z.1))) { s with heap := sortedHeap h2 h'.objs.size (as.map Value.ref) out.toArray, toks := tk } :=
      I1.take (h' := sortedHeap h2 h'.objs.size (as.map Value.ref) out.toArray) (t' := tk) (fun b ob _ e => e) (I.fpOk (Nat.le_of_lt hlt) hn0) ⟨hlen, out, eF, rv, heF⟩
    obtain ⟨H2, I3, g, qt⟩ := DX.takeT (P := fun b vs => ∃ (j : Nat) (e : Int × Int), as[j]? = some b ∧ ps[j]? = some e ∧ vs = [.int e.1, .int e.2]) I as _ I2 nd fun b hb => by
      obtain ⟨j, hj⟩ := List.mem_iff_getElem?.mp hb
      obtain ⟨e, t1, t2, he, hg⟩ := pr j b hj
      have hbl : s.heap.objs.size ≤ b := Nat.le_of_lt (hG.above b hb)
      refine ⟨hbl, ?_, [.int e.1, .int e.2], ⟨j, e, hj, he, rfl⟩, fun H3 => ⟨(by rw [sizeLine_eq]; show 2 ≤ 16777216; omega), [Value.int e.1 t1, Value.int e.2 t2], .cons ⟨t1, rfl⟩ (.cons ⟨t2, rfl⟩ .nil), ⟨_, kF _ _ (ne0 _ _ hg) (ka _ _ hg), rfl, 0, rfl⟩⟩⟩
      rw [upd_ne (ne0 _ _ hg)]
      exact I.hok.fresh hbl
    have gr : ∀ b o, H b = some o → H2 b = some o := fun b o e => g b o (by rw [upd_ne (ne_of_none e hn0)]; exact e)
    refine ⟨.ref h'.objs.size, H2, I3, rfl, q H2 h'.objs.size zs gr hperm hsort hn0 (g _ _ upd_same) fun z' hz' => ?_⟩
    obtain ⟨i, i1, i2⟩ := idx z' hz'
    obtain ⟨vs, ⟨j, e, j1, j2, ev⟩, hH⟩ := qt z'.1 (List.mem_of_getElem? i1)
    have eij : i = j := (List.getElem?_inj (List.getElem?_eq_some_iff.mp i1).1 nd).mp (i1.trans j1.symm)
    subst eij
    have ee : e = z'.2 := Option.some.inj (j2.symm.trans i2)
    rw [ev, ee] at hH
    exact ⟨I.hok.fresh (Nat.le_of_lt (hG.above _ (List.mem_of_getElem? i1))), hH⟩
end
end GR
/-! JO -/
set_option linter.all false
set_option maxRecDepth 100000
set_option maxHeartbeats 4000000
/-! sorted(d.items()) on data; dict(pairs). -/
namespace GR
open PySem PySem.Spec PyProof.Rows L2
section
variable {X : Cx} {o : Expr} {apos cpos : Pos} {to : TE}
def tItemsK (to : TE) : TE := fun σ H Q => to σ H fun x H1 => ∃ a kvs, x = .ref a ∧ Rd H1 a (.dK kvs) ∧ ∀ p, H1 p = none → Q (.ref p) (upd H1 p (DX.itemsO p a))
theorem pe_itemsK (ho : PE X o to) (hbase : attributeBase o "items" X.env (eval o X.env) = eval o X.env := by rfl) (hline : (apos.endLine == cpos.line) = true := by rfl) : PE X (.Call (.Attribute o "items" apos) [] [] cpos) (tItemsK to) := by
  refine ⟨fun pins s σ H Q I h => ?_⟩
  refine wpAny_Call_method (T := "dict") (id := "dict.items") hbase rfl hline PySem.F.plainAttrs_dict PySem.F.slot_dict_items PySem.F.type_dict_items (thn (ho.run pins s σ H _ I h) fun u s1 ⟨x, H1, I1, rx, a, kvs, ex, hd, q⟩ => ?_)
  subst ex
  obtain rfl : u = Value.ref a := rx
  obtain ⟨t1, t2, _⟩ := isD_at I1 (.inl ⟨kvs, hd⟩)
  refine ⟨t1, t2, ?_⟩
  exact Calls.callWith_builtin rfl (PySem.evalArgs_none (mt_itemsK pins s1 σ H1 (.ref a) [] (.ref a) [] Q I1 rfl .nil ⟨a, kvs, rfl, rfl, hd, q⟩))
end
end GR
namespace GR
open PySem L2
variable [TabT]
/-- a dict of ints by ints -/
def intKV : List (Key × D) → Option (List (Int × Int))
  | [] => some []
  | (.inl i, .int j) :: ks => match intKV ks with
    | some ps => some ((i, j) :: ps)
    | none => none
  | _ => none
def gSortIt : D → Option D
  | .dK ks => match intKV ks with
    | some ps => some (.lst ((sortP ps).map pD))
    | none => none
  | _ => none
section
variable {K : PySem.W.Frag} {H : Hp} {R : Reg}
theorem intKV_rep : ∀ {ks : List (Key × D)} {kvs : List (Key × V)} {ps : List (Int × Int)}, intKV ks = some ps → kvs.map Prod.fst = ks.map Prod.fst → Reps K H R (kvs.map Prod.snd) (ks.map Prod.snd) → kvs = ps.map entI
  | [], [], ps, h, _, _ => by
    have e : ([] : List (Int × Int)) = ps := Option.some.inj h
    subst e; rfl
  | [], _ :: _, _, _, e, _ => by simp at e
  | _ :: _, [], _, _, e, _ => by simp at e
  | (k, d) :: ks, (k', v) :: kvs, ps, h, e, r => by
    simp only [List.map_cons, List.cons.injEq] at e
    obtain ⟨e1, e2⟩ := e
    simp only [List.map_cons] at r
    cases r with
    | cons r1 r2 =>
      subst e1
      cases k' with
      | inr x => simp only [intKV] at h; cases h
      | inl i =>
        cases d with
        | int j =>
          simp only [intKV] at h
          cases h2 : intKV ks with
          | none => rw [h2] at h; cases h
          | some ps' =>
            rw [h2] at h
            cases h
            cases r1
            rw [intKV_rep h2 e2 r2]
            rfl
        | _ => simp only [intKV] at h; cases h
theorem reps_pairs {H : Hp} {R : Reg} : ∀ {zs : List (Addr × Int × Int)}, (∀ z ∈ zs, H z.1 = some (.tup [.int z.2.1, .int z.2.2])) → Reps K H R (zs.map fun z => V.ref z.1) ((zs.map (·.2)).map pD)
  | [], _ => .nil
  | z :: zs, h => .cons (.tup (SqT.of (h z List.mem_cons_self)) (.cons .int (.cons .int .nil))) (reps_pairs fun y hy => h y (List.mem_cons_of_mem _ hy))
end
section
variable {X : Cx} {g : Cfg} {W : WX} {ta : Bool} {o : Expr} {fe : EF} {apos cpos p pos : Pos}
theorem de_sortIt (hc : X.calm = true) (hg : Gl X "sorted") (hm : X.mg "sorted" = none) (he : DE X g W ta o fe)
    (hbase : attributeBase o "items" X.env (eval o X.env) = eval o X.env := by rfl) (hline : (apos.endLine == cpos.line) = true := by rfl)
    (hs : starEach [.Call (.Attribute o "items" apos) [] [] cpos] X.env = (false, eval (.Call (.Attribute o "items" apos) [] [] cpos) X.env) :: starEach [] X.env := by rfl) (hpl : (backTo pos (starEach [] X.env)).any (·.1) = false := by rfl) :
    DE X g W true (.Call (.Name "sorted" p) [.Call (.Attribute o "items" apos) [] [] cpos] [] pos) (fOp1 gSortIt fe) :=
  (pe_callB (cr_sortedIK hc) hg hm (by rfl) (pa_cons (pe_itemsK he hbase hline) pa_nil hs) (by decide) (by decide) hs hpl).imp fun σ H Q h => by
    have hso : Op1 X.K (fun x H1 Q => ∃ a kvs, x = .ref a ∧ Rd H1 a (.dK kvs) ∧ ∀ p, H1 p = none → rSortIK [.ref p] (upd H1 p (DX.itemsO p a)) Q) true gSortIt := fun H R L x dx d Q rx hf e k => by
      unfold gSortIt at e
      split at e
      · rename_i ks
        split at e
        · rename_i ps hps
          cases e
          obtain ⟨a, kvs, rfl, hp, ek, rs⟩ := rx.dK
          have ekv := intKV_rep hps ek rs
          subst ekv
          refine ⟨a, _, rfl, hp, fun q hq => ⟨q, a, ps, rfl, upd_same, ?_, fun H' l zs gr pm so hl hl' ht => ?_⟩⟩
          · rcases hp with hp | ⟨od, hp⟩
            · exact .inl (upd_same_of hq _ _ hp)
            · exact .inr ⟨od, upd_same_of hq _ _ hp⟩
          have gr0 : ∀ a o, H a = some o → H' a = some o := fun a o e => gr a o (upd_same_of hq a o e)
          have up : ∀ b, upd H q (DX.itemsO q a) b = none → H b = none := upd_dom
          have srt : zs.map (·.2) = sortP ps := sortP_eq pm so
          rw [← srt] at k
          refine k _ H' gr0 ?_ fun _ c ec => ?_
          · exact .lst (hf _ (up _ hl)) hl' ((reps_pairs (R := fun a => R a ∧ a ≠ l) fun z hz => (ht z hz).2))
          · cases ec
            exact ⟨up _ hl, fun o u => by rw [hl']; exact fun z => by cases z⟩
        · cases e
      · cases e
    exact op1_rd (ta := ta) hso h
end
end GR
/-! JP -/
set_option linter.all false
set_option maxRecDepth 100000
set_option maxHeartbeats 4000000
/-! dict(pairs of ints). -/
namespace GR
open PySem L2
def putP (acc : List (Int × Int)) (p : Int × Int) : List (Int × Int) := if (acc.any fun x => decide (x.1 = p.1)) = true then acc.map fun x => if x.1 = p.1 then (x.1, p.2) else x else acc ++ [p]
def mergeP (ps : List (Int × Int)) : List (Int × Int) := ps.foldl putP []
def entD (p : Int × Int) : Key × D := (.inl p.1, .int p.2)
def dictP (ps : List (Int × Int)) : D := .dK (ps.map entD)
theorem key_eq {i j : Int} : ((Sum.inl i : Key) = .inl j) ↔ i = j := ⟨fun h => Sum.inl.inj h, fun h => by rw [h]⟩
theorem put_ent (acc : List (Int × Int)) (p : Int × Int) : putK (acc.map entI) (.inl p.1) (.int p.2) = (putP acc p).map entI := by
  unfold putK putP
  have e : ((acc.map entI).any fun kv => decide (kv.1 = .inl p.1)) = acc.any fun x => decide (x.1 = p.1) := by
    rw [List.any_map]
    congr 1; funext x
    show decide ((Sum.inl x.1 : Key) = .inl p.1) = _
    exact decide_eq_decide.mpr key_eq
  rw [e]
  split
  · rw [List.map_map, List.map_map]
    apply List.map_congr_left
    intro x _
    show (if (Sum.inl x.1 : Key) = .inl p.1 then _ else _) = entI (if x.1 = p.1 then _ else _)
    by_cases z : x.1 = p.1
    · rw [if_pos (key_eq.mpr z), if_pos z]
    · rw [if_neg (fun q => z (key_eq.mp q)), if_neg z]
  · rw [List.map_append]; rfl
theorem merge_ent : ∀ (ps acc : List (Int × Int)), mergeK (acc.map entI) (ps.map entI) = (ps.foldl putP acc).map entI
  | [], acc => rfl
  | p :: ps, acc => by
    show mergeK (putK (acc.map entI) (.inl p.1) (.int p.2)) (ps.map entI) = _
    rw [put_ent]
    exact merge_ent ps (putP acc p)
theorem merge_nodup : ∀ (ps acc : List (Int × Int)), ((acc ++ ps).map Prod.fst).Nodup → ps.foldl putP acc = acc ++ ps
  | [], acc, _ => by simp
  | p :: ps, acc, h => by
    have e : (acc.any fun x => decide (x.1 = p.1)) = false := by
      rw [List.any_eq_false]
      intro x hx z
      have z := of_decide_eq_true z
      rw [List.map_append, List.nodup_append] at h
      exact h.2.2 _ (List.mem_map.mpr ⟨x, hx, rfl⟩) _ (List.mem_map.mpr ⟨p, List.mem_cons_self, rfl⟩) z
    rw [List.foldl_cons]
    have : putP acc p = acc ++ [p] := by unfold putP; rw [e]; rfl
    rw [this, merge_nodup ps (acc ++ [p]) (by rw [List.append_assoc]; exact h), List.append_assoc]
    rfl
variable [TabT]
def gDict2 : List D → Option D
  | [.dK ks] => some (.dK ks)
  | [.lst ds] => match pairsOf ds with
    | some ps => some (dictP (mergeP ps))
    | none => none
  | _ => none
section
variable {K : PySem.W.Frag} {H : Hp} {R L : Reg}
def rDict2 (K : PySem.W.Frag) : List V → Hp → VK → Prop := fun xs H Q => (∃ (a : Addr) (kvs : List (Key × V)), xs = [.ref a] ∧ Rd H a (.dK kvs) ∧ ∀ p, H p = none → Q (.ref p) (upd H p (.dK kvs))) ∨ ∃ (a : Addr) (ps : List Addr) (kvs : List (Key × V)), xs = [.ref a] ∧ SqL K H a (ps.map V.ref) ∧ Paired (fun p kv => SqT K H p [kV kv.1, kv.2]) ps kvs ∧
    ∀ p, H p = none → Q (.ref p) (upd H p (.dK (mergeK [] kvs)))
theorem c_dict2 {X : Cx} (hc : X.calm = true) : CallR X (.type "dict") (rDict2 X.K) := fun pins s σ H vs us Q I r h => h.elim (call_dictD pins s σ H vs us Q I r) (call_dictP hc pins s σ H vs us Q I r)
theorem pairs_refs : ∀ {ds : List D} {ps : List (Int × Int)} {vs : List V}, pairsOf ds = some ps → Reps K H R vs ds → ∃ as : List Addr, vs = as.map V.ref ∧ Paired (fun (p : Addr) (kv : Key × V) => SqT K H p [kV kv.1, kv.2]) as (ps.map entI)
  | [], ps, vs, h, r => by
    have e : ([] : List (Int × Int)) = ps := Option.some.inj h
    subst e
    cases r
    exact ⟨[], rfl, .nil⟩
  | d :: ds, ps, vs, h, r => by
    cases r with
    | cons r1 r2 =>
      unfold pairsOf at h
      split at h
      · rename_i he
        cases he
      · rename_i i j ds' he
        cases he
        split at h
        · rename_i ps' h2
          cases h
          obtain ⟨as, e1, e2⟩ := pairs_refs h2 r2
          cases r1 with
          | tup hh rr =>
            rename_i a xs
            cases rr with
            | cons q1 rr =>
              cases rr with
              | cons q2 rr =>
                cases rr
                cases q1
                cases q2
                exact ⟨a :: as, by rw [e1]; rfl, .cons hh e2⟩
        · cases h
      · cases h
theorem reps_ent : ∀ ps : List (Int × Int), Reps K H R ((ps.map entI).map Prod.snd) ((ps.map entD).map Prod.snd)
  | [] => .nil
  | p :: ps => .cons .int (reps_ent ps)
theorem keys_ent (ps : List (Int × Int)) : (ps.map entI).map Prod.fst = (ps.map entD).map Prod.fst := by rw [List.map_map, List.map_map]; rfl
theorem n_dict2 : OpN K (rDict2 K) true gDict2 := fun H R L xs ds d Q r hf e k => by
  unfold gDict2 at e
  split at e
  · obtain ⟨x, rfl, rx⟩ := one_arg r rfl
    cases e
    obtain ⟨p, kvs, rfl, hp, ek, rr⟩ := rx.dK
    exact .inl ⟨p, kvs, rfl, hp, fun l hl => k _ _ (upd_same_of hl) (Rep.newDK hl (hf l hl) ek rr) fun _ => NewV.upd hl fun q u z => nomatch z⟩
  · obtain ⟨x, rfl, rx⟩ := one_arg r rfl
    split at e
    · rename_i ps hps
      cases e
      obtain ⟨a, vs, rfl, hp, rs⟩ := rx.lst
      obtain ⟨as, rfl, hpr⟩ := pairs_refs hps rs
      refine .inr ⟨a, as, ps.map entI, rfl, SqL.of hp, hpr, fun l hl => ?_⟩
      have em : mergeK [] (ps.map entI) = (mergeP ps).map entI := merge_ent ps []
      rw [em]
      exact k _ _ (upd_same_of hl) (Rep.newDK hl (hf l hl) (keys_ent _) (reps_ent _)) fun _ => NewV.upd hl fun q u z => nomatch z
    · cases e
  · cases e
end
end GR
/-! JR -/
set_option linter.all false
set_option maxRecDepth 100000
set_option maxHeartbeats 4000000
/-! o.m(k = v, ..). -/
namespace GR
open PySem L2
variable [TabT]
def fMethK (C : Addr) (m : Str) (tn : Bool) (io : List Nat) (F : GF) (n : Nat) (per : Perm) (fo : EF) (fs : AF) : EF := fun env => match fo env with
  | some (.exc C d, e) => some (.exc C d, e)
  | some (r, e) => if insNo C m (res r e) = true then (match fs e with
    | some (.exc C d, e2) => some (.exc C d, e2)
    | some (.vals rs, e2) => if rs.length = n then callK tn io F (r :: per.per rs) e2 else none
    | none => none) else none
  | none => none
structure MethKwAt (P : Program) (w : World) (K : PySem.W.Frag) (mg : Str → Option Value) (base : Heap) (C : Addr) (m : Str) (ps ks : List Str) (per : Perm) (tn : Bool) (io : List Nat) (F : GF) (k : Nat) : Prop where
  ex : ∃ (f : Addr) (fd : FuncData), Cls K C ∧ Meth K C m f ∧ FnG P w K mg base (L2.CX P w) k f fd ps (spD K tn io F) ∧ KwFitM K fd ps ks per
section
variable {C : Addr} {m : Str} {tn ta : Bool} {io : List Nat} {F : GF} {n : Nat} {per : Perm} {K : PySem.W.Frag} {g : Cfg} {W : WX} {fs : AF}
theorem methK_part {σ : St} {H : Hp} {Q : VK} {fo : EF} (h : DEr K g W tn (fMethK C m tn io F n per fo fs) σ H Q) : DEr K g W ta fo σ H fun x H1 => ∃ a dx gs, x = .ref a ∧ H1 a = some (.ins C dx gs) ∧ gs.lookup m = none ∧ DAr K g W fs σ H1 fun vs H2 => vs.length = n ∧ spD K tn io F (x :: per.per vs) H2 Q (WE W σ) := by
  obtain ⟨G, B, env, r, env', ok, ee, kk, x⟩ := h.out
  unfold fMethK at ee
  cases e1 : fo env with
  | none => rw [e1] at ee; cases ee
  | some re =>
    obtain ⟨r1, env1⟩ := re
    rw [e1] at ee
    refine DEr.intro ok e1 (fun v H1 s l t => ?_) (fun C' d er a H' s ha => ?_)
    · have main : (if insNo C m (res r1 env1) = true then (match fs env1 with
        | some (.exc C d, e2) => some (R1.exc C d, e2)
        | some (.vals rs, e2) => if rs.length = n then callK tn io F (r1 :: per.per rs) e2 else none
        | none => none) else none) = some (r, env') → ∃ a dx gs, v = .ref a ∧ H1 a = some (.ins C dx gs) ∧ gs.lookup m = none ∧ DAr K g W fs σ H1 fun vs H2 => vs.length = n ∧ spD K tn io F (v :: per.per vs) H2 Q (WE W σ) := fun ee => by
        split at ee
        · rename_i hi
          obtain ⟨a, dx, gs, rfl, ha, hn⟩ := insNo_of s.ok l hi
          refine ⟨a, dx, gs, rfl, ha, hn, ?_⟩
          cases e2 : fs env1 with
          | none => rw [e2] at ee; cases ee
          | some re2 =>
            obtain ⟨r2, env2⟩ := re2
            rw [e2] at ee
            refine DAr.intro s.ok e2 (fun rs er vs H2 s2 ls => ?_) (fun C' d er a H' s2 ha => ?_)
            · subst er
              simp only at ee
              split at ee
              · rename_i hl
                exact ⟨(paired_len ls).trans hl, call_core (s.trans s2) (.cons (l.stp s2) (per.pr ls)) ee kk x⟩
              · cases ee
            · subst er; cases ee; exact x _ _ rfl a H' (s.trans s2) ha
        · cases ee
      cases r1 with
      | val d => exact main ee
      | slot i => exact main ee
      | exc C d => exact l.elim
    · subst er; cases ee; exact x _ _ rfl a H' s ha
end
section
variable {X : Cx} {g : Cfg} {W : WX} {tn ta : Bool} {o : Expr} {kws : List Keyword} {fe : EF} {fs : AF} {C f : Addr} {m : Str} {io : List Nat} {F : GF} {k : Nat} {ps ks : List Str} {per : Perm} {apos pos : Pos} {fd : FuncData} {sp : Sp} {to : TE} {tk : TA} {E : L2.St → XK} {CX : CXT}
def tMethKS (C : Addr) (m : Str) (n : Nat) (per : {α : Type} → List α → List α) (sp : Sp) (E : L2.St → XK) (ta : TE) (tk : TA) : TE := fun σ H Q => ta σ H fun x H1 => ∃ a dx fs, x = .ref a ∧ H1 a = some (.ins C dx fs) ∧ fs.lookup m = none ∧ tk σ H1 fun vs H2 => vs.length = n ∧ sp (.ref a :: per vs) H2 Q (E σ)
theorem pe_methGK {pl : Sem Bool} (per : {α : Type} → List α → List α) (he : PE X o to) (c : Cls X.K C) (hm : Meth X.K C m f) (FN : FnG X.prog X.w X.K X.mg X.base CX k f fd ps sp) (hr : RoomG k X.A)
    (hper : ∀ {vs : List V} {us : List Value}, Vals vs us → Vals (per vs) (per us)) (hb : ∀ (s : Shared) (v : Value) (ws : List Value), X.K.In s.heap → ws.length = ks.length → BindsTo s fd ⟨[v], ks.zip ws⟩ (ps.zip (v :: per ws))) (hx : ∀ σ, PassesAt CX X σ (E σ)) (hkw : PK X kws tk)
    (hall : (backToKw pos (keywordEach kws X.env)).all (·.1.isSome) = true := by rfl) (hks : (backToKw pos (keywordEach kws X.env)).filterMap (·.1) = ks := by rfl)
    (hpl : ((backTo pos (starEach [] X.env)).any (·.1) || (backToKw pos (keywordEach kws X.env)).any (·.1.isNone)) = false := by rfl)
    (ht : eval (.Call (.Attribute o m apos) [] kws pos) X.env = (do let ov ← eval o X.env; standAt apos.atName; let (f, first) ← holding [ov] (getMethod ov m pl); callWith pos f first (backTo pos (starEach [] X.env)) (backToKw pos (keywordEach kws X.env))) := by rfl) :
    PE X (.Call (.Attribute o m apos) [] kws pos) (tMethKS C m ks.length per sp E to tk) where
  run pins s σ H Q I h := by
    refine PySem.W.methodCall_KW (pl := pl) (thn (he.run pins s σ H _ I h) ?_) ht
    intro u s1 h1
    obtain ⟨x, H1, I1, rx, a, dx, fs, ex, ea, l, q⟩ := h1
    subst ex
    obtain rfl : u = Value.ref a := rx
    refine getmeth_ok I1 ea c hm l ?_
    refine PySem.W.callWith_KW0 (first := [.ref a]) (h₀ := X.base) I.ok.mod.kin hm.kp hall ?_ hpl
    refine thn (hkw.run pos pins s1 σ H1 _ I1 q) ?_
    intro ws s2 h2
    obtain ⟨zs, H2, I2, rz, l1, q2⟩ := h2
    refine ⟨I2.kIn, ?_⟩
    rw [hks]
    exact wpAny_call (run_fnG FN hr (hb s2 (.ref a) ws I2.kIn (rz.length.symm.trans l1)) (hx σ) I2 (.cons (show RelV (.ref a) (.ref a) from rfl) (hper rz)) q2)
theorem de_methKw {pl : Sem Bool} (c : MethKwAt X.prog X.w X.K X.mg X.base C m ps ks per tn io F k) (hr : RoomG k X.A) (tk : Takes X W) (ho : DE X g W ta o fe) (ha : DK X g W kws fs)
    (hall : (backToKw pos (keywordEach kws X.env)).all (·.1.isSome) = true := by rfl) (hks : (backToKw pos (keywordEach kws X.env)).filterMap (·.1) = ks := by rfl)
    (hpl : ((backTo pos (starEach [] X.env)).any (·.1) || (backToKw pos (keywordEach kws X.env)).any (·.1.isNone)) = false := by rfl)
    (ht : eval (.Call (.Attribute o m apos) [] kws pos) X.env = (do let ov ← eval o X.env; standAt apos.atName; let (f, first) ← holding [ov] (getMethod ov m pl); callWith pos f first (backTo pos (starEach [] X.env)) (backToKw pos (keywordEach kws X.env))) := by rfl) :
    DE X g W tn (.Call (.Attribute o m apos) [] kws pos) (fMethK C m tn io F ks.length per fe fs) := by
  obtain ⟨f, fd, hC, hm, F', hb⟩ := c.ex
  refine (pe_methGK (pl := pl) (per := fun l => per.per l) ho hC hm F' hr (fun h => per.pr h) hb (fun σ => passAt tk σ) ha hall hks hpl ht).imp fun σ H Q h => DEr.mono (fun v H1 => ?_) (methK_part (ta := ta) h)
  rintro ⟨a, dx, gs, e1, e2, e3, q⟩
  subst e1
  exact ⟨a, dx, gs, rfl, e2, e3, q⟩
end
end GR
/-! JS -/
set_option linter.all false
set_option maxRecDepth 100000
set_option maxHeartbeats 4000000
/-! a = b = e. -/
namespace GR
open PySem L2
variable [TabT]
def fSet2 (g : Cfg) (i j : Nat) (fe : EF) : SF := fun env => match fe env with
  | some (.exc C d, e) => some (.exc C d, e)
  | some (r, e) => match mv g r e with
    | some (d, e2) => some (.nx, (e2.set i (some d)).set j (some d))
    | none => none
  | none => none
section
variable {K : PySem.W.Frag} {g : Cfg} {W : WX} {tn tn' : Bool} {fe : EF} {σ : St} {H : Hp} {Dn : Ends} {i j : Nat}
theorem set2_rd (hi : i ∉ g.own) (hj : j ∉ g.own) (hxi : exFree g i = true) (hxj : exFree g j = true) (h : DSr K g W tn (fSet2 g i j fe) Dn σ H) : DEr K g W tn' fe σ H fun v H' => Dn.nx ((σ.set i (some v)).set j (some v)) H' := by
  obtain ⟨G, env, fl, env', ok, ee, q⟩ := h
  unfold fSet2 at ee
  cases e1 : fe env with
  | none => rw [e1] at ee; cases ee
  | some re =>
    obtain ⟨r, env1⟩ := re
    rw [e1] at ee
    refine DEr.intro ok e1 (fun v H' s l t => ?_) (fun C d er a H' s ha => ?_)
    · have main : (match mv g r env1 with
        | some (d, e2) => some (Fl.nx, (e2.set i (some d)).set j (some d))
        | none => none) = some (fl, env') → Dn.nx ((σ.set i (some v)).set j (some v)) H' := fun ee => by
        cases e2 : mv g r env1 with
        | none => simp [e2] at ee
        | some de =>
          obtain ⟨d, env2⟩ := de
          simp only [e2] at ee
          cases ee
          obtain ⟨s2, r2, _⟩ := mv_ok s.ok l e2
          have ok2 := s2.ok.set hi hxi r2
          exact q _ _ (ok2.set hj hxj (r2.mono fun a ⟨h1, h2⟩ => ⟨h1, fun z => h2 ((live_set hi a).mp z)⟩))
      cases r with
      | val d => exact main ee
      | slot i => exact main ee
      | exc C d => exact l.elim
    · subst er; cases ee; exact q a σ H' s.ok ha
end
section
variable {X : Cx} {g : Cfg} {W : WX} {tn tn' : Bool} {e : Expr} {fe : EF} {x y : Str} {px py pos : Pos}
theorem ds_set2 (i j : Nat) (he : DE X g W tn' e fe) (hN : X.N.Nodup) (hi : i ∉ g.own := by walk_at "gmem") (hj : j ∉ g.own := by walk_at "gmem") (hxi : exFree g i = true := by rfl) (hxj : exFree g j = true := by rfl)
    (hx : X.N[i]? = some x := by rfl) (hy : X.N[j]? = some y := by rfl) (hlx : Loc X.env.scope x := by first | exact Or.inl rfl | exact Or.inr rfl) (hly : Loc X.env.scope y := by first | exact Or.inl rfl | exact Or.inr rfl)
    (hfx : X.fn x = true ∨ X.env.scope.names.lookup x = some .local := by first | exact .inl rfl | exact .inr rfl | assumption) (hfy : X.fn y = true ∨ X.env.scope.names.lookup y = some .local := by first | exact .inl rfl | exact .inr rfl | assumption)
    (ha : (assignEach [.Name x px, .Name y py] X.env).map (·.2) = [assign (.Name x px) X.env, assign (.Name y py) X.env] := by rfl) (hw : swappedStores [.Name x px, .Name y py] e X.env = pure none := by rfl) :
    DS X g W tn (.Assign [.Name x px, .Name y py] e pos) (fSet2 g i j fe) :=
  (ps_asg2 he (pg_name hN hx hlx hfx) (pg_name hN hy hly hfy) ha hw).imp fun Dn σ H h => set2_rd hi hj hxi hxj h
end
end GR
/-! JT -/
set_option linter.all false
set_option maxRecDepth 100000
set_option maxHeartbeats 0
/-! Stepping: dicts of ints by ints. -/
namespace GR
open PySem L2
/-! ### data -/
def getP (l : List (Int × Int)) (i z : Int) : Int := ((l.find? fun e => decide (e.1 = i)).map Prod.snd).getD z
theorem find_ent (i : Int) : ∀ l : List (Int × Int), ((l.map entD).find? fun kv => decide (kv.1 = .inl i)) = (l.find? fun e => decide (e.1 = i)).map entD
  | [] => rfl
  | e :: l => by
    rw [List.map_cons, List.find?_cons, List.find?_cons]
    have h : decide ((entD e).1 = .inl i) = decide (e.1 = i) := decide_eq_decide.mpr key_eq
    rw [h]
    cases decide (e.1 = i) with
    | true => rfl
    | false => exact find_ent i l
theorem getZ_ent (l : List (Int × Int)) (i z : Int) : getZ (l.map entD) (.inl i) (.int z) = .int (getP l i z) := by
  unfold getZ getP
  rw [find_ent]
  cases l.find? fun e => decide (e.1 = i) with
  | none => rfl
  | some e => rfl
theorem put_entD (acc : List (Int × Int)) (p : Int × Int) : putD (acc.map entD) (.inl p.1) (.int p.2) = (putP acc p).map entD := by
  unfold putD putP
  have e : ((acc.map entD).any fun kv => decide (kv.1 = .inl p.1)) = acc.any fun x => decide (x.1 = p.1) := by
    rw [List.any_map]
    congr 1; funext x
    exact decide_eq_decide.mpr key_eq
  rw [e]
  split
  · rw [List.map_map, List.map_map]
    apply List.map_congr_left
    intro x _
    show (if (Sum.inl x.1 : Key) = .inl p.1 then _ else _) = entD (if x.1 = p.1 then _ else _)
    by_cases z : x.1 = p.1
    · rw [if_pos (key_eq.mpr z), if_pos z]; rfl
    · rw [if_neg (fun q => z (key_eq.mp q)), if_neg z]
  · rw [List.map_append]; rfl
theorem putP_len (acc : List (Int × Int)) (p : Int × Int) : (putP acc p).length ≤ acc.length + 1 := by
  unfold putP
  split
  · rw [List.length_map]; omega
  · simp
theorem gPut_dict {acc : List (Int × Int)} {i v : Int} (h : acc.length < 16777216) : gPut (.dK (acc.map entD)) (.int i) (.int v) = some (.dK ((putP acc (i, v)).map entD)) := by
  show (if (acc.map entD).length < 16777216 then some (D.dK (putD (acc.map entD) (.inl i) (.int v))) else none) = _
  rw [if_pos (by rw [List.length_map]; exact h), ← put_entD]
theorem gIx_dict {l : List (Int × Int)} {i : Int} {e : Int × Int} (h : (l.find? fun e => decide (e.1 = i)) = some e) : gIx (.dK (l.map entD)) (.int i) = some (.int e.2) := by
  show ((l.map entD).find? fun kv => decide (kv.1 = .inl i)).map Prod.snd = _
  rw [find_ent, h]
  rfl
theorem intKV_ent : ∀ l : List (Int × Int), intKV (l.map entD) = some l
  | [] => rfl
  | (i, j) :: l => by
    show (match intKV (l.map entD) with
      | some ps => some ((i, j) :: ps)
      | none => none) = _
    rw [intKV_ent l]
theorem keysI_ent : ∀ l : List (Int × Int), keysI (l.map entD) = some (l.map Prod.fst)
  | [] => rfl
  | (i, j) :: l => by
    show (match keysI (l.map entD) with
      | some is => some (i :: is)
      | none => none) = _
    rw [keysI_ent l]
    rfl
theorem gSortIt_ent (l : List (Int × Int)) : gSortIt (.dK (l.map entD)) = some (.lst ((sortP l).map pD)) := by
  unfold gSortIt
  simp only
  rw [intKV_ent]
theorem gSorted_keys {l : List (Int × Int)} (h : l.length < 64) : gSorted [.dK (l.map entD)] = some (.lst ((sortI (l.map Prod.fst)).map D.int)) := by
  show (match keysI (l.map entD) with
    | some is => if is.length < 64 then some (D.lst ((sortI is).map D.int)) else none
    | none => none) = _
  rw [keysI_ent]
  simp only
  rw [if_pos (by rw [List.length_map]; exact h)]
theorem keyItems_ent (l : List (Int × Int)) : keyItems (.dK (l.map entD)) = some ((l.map Prod.fst).map D.int) := by
  unfold keyItems
  simp only
  rw [List.map_map, List.map_map]; rfl
theorem gDict2_pairs (l : List (Int × Int)) : gDict2 [.lst (l.map pD)] = some (dictP (mergeP l)) := by
  show (match pairsOf (l.map pD) with
    | some ps => some (dictP (mergeP ps))
    | none => none) = _
  rw [pairsOf_map]
/-! ### steps -/
section
variable {env : Env} {Q : R1 → Env → Prop} {QS : Fl → Env → Prop} {fe fa fb : EF} {fs : AF} {g : Cfg} {j : Nat} {e : Env}
def SGet (z : Int) (ra rb : R1) (e : Env) (Q : R1 → Env → Prop) : Prop := ∃ ks i, res ra e = some (.dK ks) ∧ res rb e = some (.int i) ∧ Q (.val (getZ ks (.inl i) (.int z))) e
def SGet1 (ra : R1) (e : Env) (k : Prop) : Prop := (∃ ks, res ra e = some (.dK ks)) ∧ k
theorem w_get {z : Int} (h : wO (fa env) (kE Q fun ra e1 => SGet1 ra e1 (wO (fb e1) (kE Q fun rb e2 => SGet z ra rb e2 Q)))) : wO (fGet z fa fb env) Q := by
  unfold fGet
  refine w_bind ?_
  refine h.mono fun ra e1 h => ?_
  have main : SGet1 ra e1 (wO (fb e1) (kE Q fun rb e2 => SGet z ra rb e2 Q)) → wO (match res ra e1 with
    | some (.dK _) => bind1 fb (fun rb e2 => match res ra e2, res rb e2 with
      | some (.dK ks), some (.int i) => some (.val (getZ ks (.inl i) (.int z)), e2)
      | some (.dK ks), some (.str i) => some (.val (getZ ks (.inr i) (.int z)), e2)
      | _, _ => none) e1
    | _ => none) Q := fun ⟨⟨ks0, h0⟩, h⟩ => by
    rw [h0]
    simp only
    refine w_bind ?_
    refine h.mono fun rb e2 h => ?_
    have main2 : SGet z ra rb e2 Q → wO (match res ra e2, res rb e2 with
      | some (.dK ks), some (.int i) => some (R1.val (getZ ks (.inl i) (.int z)), e2)
      | some (.dK ks), some (.str i) => some (.val (getZ ks (.inr i) (.int z)), e2)
      | _, _ => none) Q := fun ⟨ks, i, h1, h2, q⟩ => by
      rw [h1, h2]
      exact ⟨_, _, rfl, q⟩
    cases rb with
    | exc C d => exact h
    | val d => exact main2 h
    | slot i => exact main2 h
  cases ra with
  | exc C d => exact h
  | val d => exact main h
  | slot i => exact main h
theorem s_get1 {ra : R1} {ks : List (Key × D)} {k : Prop} (h : res ra e = some (.dK ks)) (q : k) : SGet1 ra e k := ⟨⟨ks, h⟩, q⟩
theorem s_get {z : Int} {ra rb : R1} {l : List (Int × Int)} {i : Int} (h1 : res ra e = some (.dK (l.map entD))) (h2 : res rb e = some (.int i)) (q : Q (.val (.int (getP l i z))) e) : SGet z ra rb e Q := ⟨_, i, h1, h2, by rw [getZ_ent]; exact q⟩
def SVal1 (r : R1) (k : D → Prop) : Prop := ∃ d, r = .val d ∧ k d
theorem w_lck {ks : List (Key × D)} (h0 : env[j]?.join = some (.dK ks)) (h : wO (fe env) fun r e => SVal1 r fun d => Q (.val d) e) : wO (fLck j fe env) Q := by
  obtain ⟨r, e, he, d, rfl, q⟩ := h
  unfold fLck
  rw [h0]
  simp only
  rw [he]
  exact ⟨_, _, rfl, q⟩
theorem s_val1 {d : D} {k : D → Prop} (q : k d) : SVal1 (.val d) k := ⟨d, rfl, q⟩
def SBorD (j : Nat) (ks : List (Key × D)) (r : R1) (e : Env) (Q : R1 → Env → Prop) : Prop := ∃ d e2, r = .val d ∧ d.shallow = true ∧ e.set j (some (.dK ks)) = e2 ∧ Q (.val d) e2
theorem w_borD {ks : List (Key × D)} (h0 : env[j]?.join = some (.dK ks)) (h : wO (fe env) fun r e => SBorD j ks r e Q) : wO (fBorD j fe env) Q := by
  obtain ⟨r, e, he, d, e2, rfl, hs, rfl, q⟩ := h
  unfold fBorD
  rw [h0]
  simp only
  rw [he]
  exact ⟨_, _, by simp only; exact if_pos hs, q⟩
theorem s_borD {ks : List (Key × D)} {d : D} {e2 : Env} (h1 : d.shallow = true) (h2 : e.set j (some (.dK ks)) = e2) (q : Q (.val d) e2) : SBorD j ks (.val d) e Q := ⟨_, _, rfl, h1, h2, q⟩
/-- for k in d -/
theorem w_forK {wl : List Nat} {gt : GT} {body : SF} {l : List (Int × Int)} (h0 : env[j]?.join = some (.dK (l.map entD))) (h : wO (goFor wl gt body ((l.map Prod.fst).map D.int) (wipeE env wl)) fun fl e => fl = .nx ∧ QS .nx e) : wO (fForK j wl gt body env) QS := by
  obtain ⟨fl, e, he, rfl, q⟩ := h
  unfold fForK
  rw [h0]
  simp only
  have hf : fFor wl (fItems keyItems (fVar j)) gt body env = some (.nx, e) := by
    unfold fFor fItems fVar
    rw [h0]
    simp only
    rw [keyItems_ent]
    exact he
  rw [hf]
  exact ⟨_, _, rfl, q⟩
theorem w_methK {C : Addr} {m : Str} {tn : Bool} {io : List Nat} {F : GF} {n : Nat} {per : Perm} {fo : EF} (h : wO (fo env) (kE Q fun r e => SRec C m r e (wO (fs e) (kAE Q fun rs e2 => rs.length = n ∧ SCall F io (r :: per.per rs) e2 fun ro os => callOk tn io (r :: per.per rs) os ro = true ∧ SPut (r :: per.per rs) io os e2 fun e' => Q (r1Of ro) e')))) : wO (fMethK C m tn io F n per fo fs env) Q := by
  obtain ⟨r, e, he, q⟩ := h
  unfold fMethK
  rw [he]
  have main : (SRec C m r e (wO (fs e) (kAE Q fun rs e2 => rs.length = n ∧ SCall F io (r :: per.per rs) e2 fun ro os => callOk tn io (r :: per.per rs) os ro = true ∧ SPut (r :: per.per rs) io os e2 fun e' => Q (r1Of ro) e'))) → wO (if insNo C m (res r e) = true then (match fs e with
    | some (.exc C d, e2) => some (R1.exc C d, e2)
    | some (.vals rs, e2) => if rs.length = n then callK tn io F (r :: per.per rs) e2 else none
    | none => none) else none) Q := fun q => by
    obtain ⟨gs, h1, h2, ra, e2, h3, q⟩ := q
    rw [if_pos (by rw [h1]; simp [insNo, h2]), h3]
    cases ra with
    | exc C d => exact ⟨_, _, rfl, q⟩
    | vals rs =>
      obtain ⟨hl, ds, h4, h5, q⟩ := q
      simp only
      rw [if_pos hl]
      exact w_callK h4 h5 q
  cases r with
  | exc C d => exact ⟨_, _, rfl, q⟩
  | val d => exact main q
  | slot d => exact main q
def SSet2 (g : Cfg) (i j : Nat) (r : R1) (e : Env) (k : Env → Prop) : Prop := ∃ d e2 e3, mv g r e = some (d, e2) ∧ (e2.set i (some d)).set j (some d) = e3 ∧ k e3
theorem w_set2 {i : Nat} (h : wO (fe env) (kS QS fun r e => SSet2 g i j r e fun e3 => QS .nx e3)) : wO (fSet2 g i j fe env) QS := by
  obtain ⟨r, e, he, q⟩ := h
  unfold fSet2
  rw [he]
  cases r with
  | exc C d => exact ⟨_, _, rfl, q⟩
  | val d => obtain ⟨d, e2, e3, h1, rfl, q⟩ := q; exact ⟨_, _, by simp only; rw [h1], q⟩
  | slot d => obtain ⟨d, e2, e3, h1, rfl, q⟩ := q; exact ⟨_, _, by simp only; rw [h1], q⟩
theorem s_set2 {i : Nat} {r : R1} {d : D} {e2 e3 : Env} {ke : Env → Prop} (h1 : mv g r e = some (d, e2)) (h2 : (e2.set i (some d)).set j (some d) = e3) (q : ke e3) : SSet2 g i j r e ke := ⟨_, _, _, h1, h2, q⟩
end
end GR
/-! JU -/
set_option linter.all false
set_option maxRecDepth 100000
/-! Rows as lists of (place, value): one step, two ways. -/
namespace GR
/-! ### puts -/
abbrev PL : Type := List (Int × Int)
def keysP (l : PL) : List Int := l.map Prod.fst
theorem getP_nil (x z : Int) : getP [] x z = z := rfl
theorem getP_cons (e : Int × Int) (l : PL) (x z : Int) : getP (e :: l) x z = if e.1 = x then e.2 else getP l x z := by
  unfold getP
  rw [List.find?_cons]
  by_cases h : e.1 = x
  · rw [if_pos h, decide_eq_true h]; rfl
  · rw [if_neg h, decide_eq_false h]
theorem getP_none {l : PL} {x z : Int} (h : x ∉ keysP l) : getP l x z = z := by
  induction l with
  | nil => rfl
  | cons e l ih =>
    have h1 : e.1 ≠ x := fun q => h (by rw [← q]; exact List.mem_cons_self)
    rw [getP_cons, if_neg h1]
    exact ih fun q => h (List.mem_cons_of_mem _ q)
theorem getP_mem {l : PL} (nd : (keysP l).Nodup) {e : Int × Int} (h : e ∈ l) (z : Int) : getP l e.1 z = e.2 := by
  induction l with
  | nil => cases h
  | cons a l ih =>
    rw [getP_cons]
    have nd' : (a.1 :: keysP l).Nodup := nd
    rw [List.nodup_cons] at nd'
    rcases List.mem_cons.mp h with rfl | h
    · rw [if_pos rfl]
    · have : a.1 ≠ e.1 := fun q => nd'.1 (by rw [q]; exact List.mem_map.mpr ⟨e, h, rfl⟩)
      rw [if_neg this]
      exact ih nd'.2 h
theorem find_mem {l : PL} (nd : (keysP l).Nodup) {e : Int × Int} (h : e ∈ l) : (l.find? fun y => decide (y.1 = e.1)) = some e := by
  induction l with
  | nil => cases h
  | cons a l ih =>
    have nd' : (a.1 :: keysP l).Nodup := nd
    rw [List.nodup_cons] at nd'
    rw [List.find?_cons]
    rcases List.mem_cons.mp h with rfl | h
    · rw [decide_eq_true rfl]
    · have : a.1 ≠ e.1 := fun q => nd'.1 (by rw [q]; exact List.mem_map.mpr ⟨e, h, rfl⟩)
      rw [decide_eq_false this]
      exact ih nd'.2 h
theorem mem_key {l : PL} {x : Int} : x ∈ keysP l ↔ ∃ v, (x, v) ∈ l := by
  unfold keysP
  rw [List.mem_map]
  constructor
  · rintro ⟨⟨a, b⟩, h, rfl⟩; exact ⟨b, h⟩
  · rintro ⟨v, h⟩; exact ⟨_, h, rfl⟩
theorem any_key {l : PL} {x : Int} : (l.any fun y => decide (y.1 = x)) = true ↔ x ∈ keysP l := by
  rw [List.any_eq_true]
  unfold keysP
  rw [List.mem_map]
  constructor
  · rintro ⟨y, h, e⟩; exact ⟨y, h, of_decide_eq_true e⟩
  · rintro ⟨y, h, e⟩; exact ⟨y, h, decide_eq_true e⟩
theorem keys_put {l : PL} {k v : Int} : keysP (putP l (k, v)) = if k ∈ keysP l then keysP l else keysP l ++ [k] := by
  unfold putP
  by_cases h : k ∈ keysP l
  · rw [if_pos (any_key.mpr h), if_pos h]
    unfold keysP
    rw [List.map_map]
    apply List.map_congr_left
    intro x _
    simp only [Function.comp]
    split <;> rfl
  · rw [if_neg fun q => h (any_key.mp q), if_neg h]
    unfold keysP
    rw [List.map_append]; rfl
theorem nodup_put {l : PL} {k v : Int} (nd : (keysP l).Nodup) : (keysP (putP l (k, v))).Nodup := by
  rw [keys_put]
  by_cases h : k ∈ keysP l
  · rw [if_pos h]; exact nd
  · rw [if_neg h, List.nodup_append]
    refine ⟨nd, by simp, fun a ha b hb => ?_⟩
    rw [List.mem_singleton] at hb
    rw [hb]
    exact fun q => h (by rw [← q]; exact ha)
theorem getP_app {l : PL} {k v x : Int} (h : k ∉ keysP l) : getP (l ++ [(k, v)]) x 0 = if x = k then v else getP l x 0 := by
  induction l with
  | nil =>
    show getP [(k, v)] x 0 = _
    rw [getP_cons, getP_nil]
    by_cases z : x = k
    · rw [if_pos z.symm, if_pos z]
    · rw [if_neg (fun q => z q.symm), if_neg z]
  | cons e l ih =>
    have h1 : e.1 ≠ k := fun q => h (by rw [← q]; exact List.mem_cons_self)
    rw [List.cons_append, getP_cons, getP_cons, ih fun q => h (List.mem_cons_of_mem _ q)]
    by_cases z : e.1 = x
    · have : x ≠ k := fun q => h1 (z.trans q)
      rw [if_pos z, if_neg this, if_pos z]
    · rw [if_neg z, if_neg z]
theorem getP_map {l : PL} {k v x : Int} (h : k ∈ keysP l) : getP (l.map fun y => if y.1 = k then (y.1, v) else y) x 0 = if x = k then v else getP l x 0 := by
  induction l with
  | nil => cases h
  | cons e l ih =>
    rw [List.map_cons, getP_cons, getP_cons]
    by_cases z : e.1 = k
    · rw [if_pos z]
      by_cases y : e.1 = x
      · rw [if_pos y, if_pos (y.symm.trans z)]
      · have : x ≠ k := fun q => y (z.trans q.symm)
        rw [if_neg y, if_neg this, if_neg y]
        by_cases m : k ∈ keysP l
        · rw [ih m, if_neg this]
        · -- nothing to change
          have : (l.map fun y => if y.1 = k then (y.1, v) else y) = l := by
            conv => rhs; rw [← List.map_id l]
            apply List.map_congr_left
            intro y hy
            have : y.1 ≠ k := fun q => m (by rw [← q]; exact List.mem_map.mpr ⟨y, hy, rfl⟩)
            rw [if_neg this]; rfl
          rw [this]
    · rw [if_neg z]
      have m : k ∈ keysP l := by
        rcases List.mem_cons.mp (show k ∈ e.1 :: keysP l from h) with q | q
        · exact absurd q.symm z
        · exact q
      rw [ih m]
      by_cases y : e.1 = x
      · have : x ≠ k := fun q => z (y.trans q)
        rw [if_pos y, if_neg this, if_pos y]
      · rw [if_neg y, if_neg y]
theorem getP_put {l : PL} {k v x : Int} : getP (putP l (k, v)) x 0 = if x = k then v else getP l x 0 := by
  unfold putP
  by_cases h : k ∈ keysP l
  · rw [if_pos (any_key.mpr h)]
    exact getP_map h
  · rw [if_neg fun q => h (any_key.mp q)]
    exact getP_app h
/-! ### events -/
def evSum (ev : PL) (x : Int) : Int := (ev.map fun a => if a.1 = x then a.2 else 0).sum
theorem evSum_cons (a : Int × Int) (ev : PL) (x : Int) : evSum (a :: ev) x = (if a.1 = x then a.2 else 0) + evSum ev x := by
  unfold evSum
  rw [List.map_cons, List.sum_cons]
theorem evSum_perm {a b : PL} (p : a.Perm b) (x : Int) : evSum a x = evSum b x := by
  induction p with
  | nil => rfl
  | cons e _ ih => rw [evSum_cons, evSum_cons, ih]
  | swap e f l => rw [evSum_cons, evSum_cons, evSum_cons, evSum_cons]; omega
  | trans _ _ h1 h2 => exact h1.trans h2
theorem evSum_none {ev : PL} {x : Int} (h : x ∉ keysP ev) : evSum ev x = 0 := by
  induction ev with
  | nil => rfl
  | cons a ev ih =>
    rw [evSum_cons, ih fun q => h (List.mem_cons_of_mem _ q), if_neg fun q => h (by rw [← q]; exact List.mem_cons_self)]
    rfl
def addE (acc : PL) (a : Int × Int) : PL := putP acc (a.1, getP acc a.1 0 + a.2)
def addM (p : Int) (acc : PL) (a : Int × Int) : PL := putP acc (a.1, (getP acc a.1 0 + a.2) % p)
theorem addE_all : ∀ (ev acc : PL), (keysP acc).Nodup → (keysP (ev.foldl addE acc)).Nodup ∧ (∀ x, getP (ev.foldl addE acc) x 0 = getP acc x 0 + evSum ev x) ∧ ∀ x, x ∈ keysP (ev.foldl addE acc) ↔ x ∈ keysP acc ∨ x ∈ keysP ev
  | [], acc, nd => ⟨nd, fun x => by simp [evSum], fun x => by simp [keysP]⟩
  | a :: ev, acc, nd => by
    obtain ⟨h1, h2, h3⟩ := addE_all ev (addE acc a) (nodup_put nd)
    refine ⟨h1, fun x => ?_, fun x => ?_⟩
    · rw [List.foldl_cons, h2, evSum_cons]
      unfold addE
      rw [getP_put]
      by_cases z : x = a.1
      · rw [if_pos z, if_pos z.symm, z]; omega
      · rw [if_neg z, if_neg fun q => z q.symm]; omega
    · rw [List.foldl_cons, h3]
      unfold addE
      rw [keys_put]
      by_cases z : a.1 ∈ keysP acc
      · rw [if_pos z]
        show _ ↔ _ ∨ x ∈ a.1 :: keysP ev
        rw [List.mem_cons]
        constructor
        · rintro (h | h)
          · exact .inl h
          · exact .inr (.inr h)
        · rintro (h | h | h)
          · exact .inl h
          · exact .inl (by rw [h]; exact z)
          · exact .inr h
      · rw [if_neg z]
        show _ ↔ _ ∨ x ∈ a.1 :: keysP ev
        rw [List.mem_cons, List.mem_append, List.mem_singleton]
        exact or_assoc
theorem addM_all (p : Int) (hp : 0 < p) : ∀ (ev acc : PL), (keysP acc).Nodup → (∀ e ∈ acc, 0 ≤ e.2 ∧ e.2 < p) → (keysP (ev.foldl (addM p) acc)).Nodup ∧ (∀ e ∈ ev.foldl (addM p) acc, 0 ≤ e.2 ∧ e.2 < p) ∧ (∀ x, getP (ev.foldl (addM p) acc) x 0 % p = (getP acc x 0 + evSum ev x) % p) ∧ ∀ x, x ∈ keysP (ev.foldl (addM p) acc) ↔ x ∈ keysP acc ∨ x ∈ keysP ev
  | [], acc, nd, hr => ⟨nd, hr, fun x => by simp [evSum], fun x => by simp [keysP]⟩
  | a :: ev, acc, nd, hr => by
    have hr2 : ∀ e ∈ addM p acc a, 0 ≤ e.2 ∧ e.2 < p := by
      intro e he
      unfold addM putP at he
      have b1 := Int.emod_nonneg (getP acc a.1 0 + a.2) (show p ≠ 0 by omega)
      have b2 := Int.emod_lt_of_pos (getP acc a.1 0 + a.2) hp
      split at he
      · obtain ⟨y, hy, rfl⟩ := List.mem_map.mp he
        split
        · exact ⟨b1, b2⟩
        · exact hr y hy
      · rcases List.mem_append.mp he with he | he
        · exact hr e he
        · rw [List.mem_singleton] at he
          rw [he]; exact ⟨b1, b2⟩
    obtain ⟨h1, h0, h2, h3⟩ := addM_all p hp ev (addM p acc a) (nodup_put nd) hr2
    refine ⟨h1, h0, fun x => ?_, fun x => ?_⟩
    · rw [List.foldl_cons, h2, evSum_cons]
      unfold addM
      rw [getP_put]
      by_cases z : x = a.1
      · rw [if_pos z, if_pos z.symm, z]
        rw [Int.emod_add_emod]
        congr 1; omega
      · rw [if_neg z, if_neg fun q => z q.symm]
        congr 1; omega
    · rw [List.foldl_cons, h3]
      unfold addM
      rw [keys_put]
      by_cases z : a.1 ∈ keysP acc
      · rw [if_pos z]
        show _ ↔ _ ∨ x ∈ a.1 :: keysP ev
        rw [List.mem_cons]
        constructor
        · rintro (h | h)
          · exact .inl h
          · exact .inr (.inr h)
        · rintro (h | h | h)
          · exact .inl h
          · exact .inl (by rw [h]; exact z)
          · exact .inr h
      · rw [if_neg z]
        show _ ↔ _ ∨ x ∈ a.1 :: keysP ev
        rw [List.mem_cons, List.mem_append, List.mem_singleton]
        exact or_assoc
/-! ### the one ascending list -/
structure Can (g : Int → Int) (l : PL) : Prop where
  asc : l.Pairwise fun a b => a.1 < b.1
  mem : ∀ e : Int × Int, e ∈ l ↔ e.2 = g e.1 ∧ g e.1 ≠ 0
theorem asc_same {R : Int × Int → Int × Int → Prop} (irr : ∀ a b, R a b → ¬ R b a) : ∀ {l m : PL}, l.Pairwise R → m.Pairwise R → (∀ e, e ∈ l ↔ e ∈ m) → l = m
  | [], [], _, _, _ => rfl
  | [], b :: m, _, _, h => nomatch (h b).mpr List.mem_cons_self
  | a :: l, [], _, _, h => nomatch (h a).mp List.mem_cons_self
  | a :: l, b :: m, h1, h2, h => by
    rw [List.pairwise_cons] at h1 h2
    have ia : ∀ x : Int × Int, ¬ R x x := fun x q => irr x x q q
    have e : a = b := by
      rcases List.mem_cons.mp ((h a).mp List.mem_cons_self) with e | ha
      · exact e
      · rcases List.mem_cons.mp ((h b).mpr List.mem_cons_self) with e | hb
        · exact e.symm
        · exact absurd (h2.1 a ha) (irr _ _ (h1.1 b hb))
    subst e
    have : l = m := asc_same irr h1.2 h2.2 fun e => by
      constructor
      · intro he
        rcases List.mem_cons.mp ((h e).mp (List.mem_cons_of_mem _ he)) with rfl | q
        · exact absurd (h1.1 _ he) (ia _)
        · exact q
      · intro he
        rcases List.mem_cons.mp ((h e).mpr (List.mem_cons_of_mem _ he)) with rfl | q
        · exact absurd (h2.1 _ he) (ia _)
        · exact q
    rw [this]
theorem Can.uniq {g : Int → Int} {l m : PL} (h1 : Can g l) (h2 : Can g m) : l = m := asc_same (fun a b p q => by omega) h1.asc h2.asc fun e => by rw [h1.mem, h2.mem]
theorem sortP_asc {l : PL} (nd : (keysP l).Nodup) : (sortP l).Pairwise fun a b => a.1 < b.1 := by
  have h1 := sortP_sorted l
  have h2 : (sortP l).Pairwise fun a b => a.1 ≠ b.1 := List.pairwise_map.mp ((((sortP_perm l).map Prod.fst).nodup_iff).mpr nd)
  exact (h1.and h2).imp fun ⟨a, b⟩ => by
    rw [leP_iff] at a
    omega
theorem sortI_asc {l : List Int} (nd : l.Nodup) : (sortI l).Pairwise (· < ·) := by
  have h2 : (sortI l).Pairwise fun a b => a ≠ b := ((sortI_perm l).nodup_iff).mpr nd
  exact ((sortI_sorted l).and h2).imp fun h => by omega
/-- the program's row: its keys in sequence, those with a value modulo p -/
def rowE (p : Int) (acc : PL) : PL := ((sortI (keysP acc)).filter fun x => decide (getP acc x 0 % p ≠ 0)).map fun x => (x, getP acc x 0 % p)
theorem rowE_can {p : Int} {ev : PL} : Can (fun x => evSum ev x % p) (rowE p (ev.foldl addE [])) := by
  obtain ⟨h1, h2, h3⟩ := addE_all ev [] List.nodup_nil
  have h2' : ∀ x, getP (ev.foldl addE []) x 0 = evSum ev x := fun x => by rw [h2, getP_nil]; omega
  refine ⟨?_, fun e => ?_⟩
  · unfold rowE
    rw [List.pairwise_map]
    exact (sortI_asc h1).sublist List.filter_sublist
  · unfold rowE
    rw [List.mem_map]
    constructor
    · rintro ⟨x, hx, rfl⟩
      have h5 := of_decide_eq_true (List.mem_filter.mp hx).2
      rw [h2'] at h5
      exact ⟨by show getP _ x 0 % p = evSum ev x % p; rw [h2'], h5⟩
    · rintro ⟨e1, e2⟩
      refine ⟨e.1, List.mem_filter.mpr ⟨(sortI_perm _).mem_iff.mpr ((h3 _).mpr (.inr ?_)), ?_⟩, ?_⟩
      · refine Classical.byContradiction fun q => e2 ?_
        show evSum ev e.1 % p = 0
        rw [evSum_none q]; simp
      · rw [h2']; exact decide_eq_true e2
      · rw [h2']; exact Prod.ext rfl e1.symm
/-- the law's dict: what is not 0 -/
def dictM (acc : PL) : PL := ((keysP acc).filter fun x => decide (getP acc x 0 ≠ 0)).map fun x => (x, getP acc x 0)
theorem keys_dictM (acc : PL) : keysP (dictM acc) = (keysP acc).filter fun x => decide (getP acc x 0 ≠ 0) := by
  unfold dictM
  conv => lhs; unfold keysP
  rw [List.map_map]
  conv => rhs; rw [← List.map_id ((keysP acc).filter fun x => decide (getP acc x 0 ≠ 0))]
  exact List.map_congr_left fun x _ => rfl
theorem dictM_can {p : Int} (hp : 0 < p) {ev : PL} : (keysP (dictM (ev.foldl (addM p) []))).Nodup ∧ Can (fun x => evSum ev x % p) (sortP (dictM (ev.foldl (addM p) []))) := by
  obtain ⟨h1, h0, h2, h3⟩ := addM_all p hp ev [] List.nodup_nil (fun _ h => nomatch h)
  generalize ev.foldl (addM p) [] = acc at *
  have h2' : ∀ x, getP acc x 0 = evSum ev x % p := fun x => by
    have e := h2 x
    rw [getP_nil, Int.zero_add] at e
    rw [← e]
    by_cases hx : x ∈ keysP acc
    · obtain ⟨v, hv⟩ := mem_key.mp hx
      have := h0 _ hv
      rw [getP_mem h1 hv 0]
      exact (Int.emod_eq_of_lt this.1 this.2).symm
    · rw [getP_none hx]; simp
  have nd : (keysP (dictM acc)).Nodup := by
    rw [keys_dictM]
    exact h1.sublist List.filter_sublist
  refine ⟨nd, sortP_asc nd, fun e => ?_⟩
  rw [(sortP_perm _).mem_iff]
  unfold dictM
  rw [List.mem_map]
  constructor
  · rintro ⟨x, hx, rfl⟩
    have := of_decide_eq_true (List.mem_filter.mp hx).2
    rw [h2'] at this
    exact ⟨h2' x, this⟩
  · rintro ⟨e1, e2⟩
    refine ⟨e.1, List.mem_filter.mpr ⟨(h3 _).mpr (.inr ?_), ?_⟩, ?_⟩
    · refine Classical.byContradiction fun q => e2 ?_
      show evSum ev e.1 % p = 0
      rw [evSum_none q]; simp
    · rw [h2']; exact decide_eq_true e2
    · rw [h2']; exact Prod.ext rfl e1.symm
end GR
/-! JV -/
set_option linter.all false
set_option maxRecDepth 100000
set_option maxHeartbeats 4000000
/-! x is None, x is not None. -/
namespace GR
open PySem L2
variable [TabT]
def isNonD : D → Bool
  | .non => true
  | _ => false
def gIsN (neg : Bool) : D → D → Option D
  | d, .non => some (.bl (neg != isNonD d))
  | _, _ => none
section
variable {K : PySem.W.Frag}
theorem repB_non {H : Hp} {R L : Reg} {v : V} {d : D} (r : RepB K H R L v d) : decide (v = .non) = isNonD d := by
  rcases r with r | ⟨p, rfl, _, _⟩
  · cases r <;> first | rfl | exact decide_eq_false (fun z => nomatch z)
  · have h : decide (V.ref p = .non) = false := decide_eq_false fun z => nomatch z
    rw [h]
    rename_i ow
    cases d with
    | non => exact ow.elim
    | _ => rfl
theorem o2_isN : Op2 K (fun x y H Q => y = .non ∧ Q (.bl (decide (x = .non))) H) true (gIsN false) := fun H R L x y dx dy d Q rx ry hf e k => by
  unfold gIsN at e
  split at e
  · cases e
    have hy : y = .non := by
      rcases ry with r | ⟨p, _, _, ow⟩
      · cases r; rfl
      · exact ow.elim
    subst hy
    refine ⟨rfl, ?_⟩
    rw [repB_non rx]
    have : (false != isNonD dx) = isNonD dx := by cases isNonD dx <;> rfl
    rw [this] at k
    exact k _ H (fun _ _ h => h) .bl fun _ => NewV.no fun p q => nomatch q
  · cases e
theorem o2_notN : Op2 K (fun x y H Q => y = .non ∧ Q (.bl (!decide (x = .non))) H) true (gIsN true) := fun H R L x y dx dy d Q rx ry hf e k => by
  unfold gIsN at e
  split at e
  · cases e
    have hy : y = .non := by
      rcases ry with r | ⟨p, _, _, ow⟩
      · cases r; rfl
      · exact ow.elim
    subst hy
    refine ⟨rfl, ?_⟩
    rw [repB_non rx]
    have : (true != isNonD dx) = !isNonD dx := by cases isNonD dx <;> rfl
    rw [this] at k
    exact k _ H (fun _ _ h => h) .bl fun _ => NewV.no fun p q => nomatch q
  · cases e
end
end GR
/-! JW -/
set_option linter.all false
set_option maxRecDepth 100000
set_option maxHeartbeats 4000000
/-! dict == dict, ints by ints. -/
namespace GR
open PySem L2
def lookP (m : List (Int × Int)) (i : Int) : Option Int := (m.find? fun e => decide (e.1 = i)).map Prod.snd
def allP (l m : List (Int × Int)) : Bool := l.all fun e => decide (lookP m e.1 = some e.2)
theorem valV_ent (i : Int) : ∀ m : List (Int × Int), valV (m.map entI) (Sum.inl i : Key) = (lookP m i).map V.int
  | [] => rfl
  | e :: m => by
    rw [List.map_cons]
    unfold lookP
    rw [List.find?_cons]
    by_cases h : e.1 = i
    · rw [valV_pos (show (entI e).1 = Sum.inl i from key_eq.mpr h), decide_eq_true h]; rfl
    · rw [valV_neg (fun q => h (key_eq.mp q)), decide_eq_false h]
      exact valV_ent i m
section
variable {X : Cx}
def rEqDI : R2 := fun x y H Q => ∃ (a b : Addr) (l m : List (Int × Int)), x = .ref a ∧ y = .ref b ∧ Rd H a (.dK (l.map entI)) ∧ Rd H b (.dK (m.map entI)) ∧ Q (.bl (decide (l.length = m.length) && allP l m)) H
theorem hits_int {A : Around} {s : Shared} {m : List (Int × Int)} {vb : List (Key × Value)} (rb : KV (m.map entI) vb) : ∀ {l : List (Int × Int)} {va : List (Key × Value)}, KV (l.map entI) va → PySem.W.KeqHits A s vb va (allP l m)
  | [], va, ra => by
    cases ra
    exact .nil
  | e :: l, va, ra => by
    cases ra with
    | @cons _ q _ qs h t =>
      obtain ⟨h1, h2⟩ := h
      obtain ⟨k, v⟩ := q
      have h1 : (Sum.inl e.1 : Key) = k := h1
      subst h1
      obtain ⟨t1, hv⟩ : ∃ t, v = Value.int e.2 t := h2
      subst hv
      have ih := hits_int (A := A) (s := s) rb t
      have rr := rb.val (Sum.inl e.1)
      rw [valV_ent] at rr
      cases hl : lookP m e.1 with
      | none =>
        rw [hl] at rr
        have e1 : allP (e :: l) m = false := by unfold allP; rw [List.all_cons, hl]; rfl
        rw [e1]
        exact .miss rr.none_of
      | some j =>
        rw [hl] at rr
        obtain ⟨y, hy, ry⟩ := RelO.some_of rr
        obtain ⟨t2, rfl⟩ : ∃ t, y = Value.int j t := ry
        have e1 : allP (e :: l) m = ((e.2 == j) && allP l m) := by
          unfold allP
          rw [List.all_cons, hl]
          congr 1
          by_cases z : e.2 = j
          · rw [decide_eq_true (by rw [z])]; simp [z]
          · rw [decide_eq_false (fun q => z (Option.some.inj q).symm)]; simp [z]
        rw [e1]
        exact .hit hy (SeqAt.EqAt.int_int (A := A) (s := s) e.2 t1 j t2) ih
theorem op_eqDI (hu : X.A.units < cLine) : OpR X (compareOp .Eq) rEqDI := by
  intro pins s σ H x y v u Q I rx ry h
  obtain ⟨a, b, l, m, rfl, rfl, ea, eb, q⟩ := h
  obtain rfl : v = Value.ref a := rx
  obtain rfl : u = Value.ref b := ry
  obtain ⟨_, ya, va, ra, da⟩ := dk_rd I.hok ea
  obtain ⟨_, yb, vb, rb, db⟩ := dk_rd I.hok eb
  have la : va.length = l.length := by rw [← KV.length ra, List.length_map]
  have lb : vb.length = m.length := by rw [← KV.length rb, List.length_map]
  refine PySem.W.keq_eq (knd := mixKind X.prog X.w) (r := allP l m) ya yb da db hu (fun _ => hits_int rb ra) (fin_bl I q ?_)
  rw [la, lb]
  by_cases z : l.length = m.length
  · rw [decide_eq_true z]; simp [z]
  · rw [decide_eq_false z]; simp [z]
end
section
variable [TabT] {K : PySem.W.Frag}
def gEqDI : D → D → Option D
  | .dK ks, .dK ls => match intKV ks with
    | some l => match intKV ls with
      | some m => some (.bl (decide (l.length = m.length) && allP l m))
      | none => none
    | none => none
  | _, _ => none
theorem o2_eqDI : Op2 K rEqDI true gEqDI := fun H R L x y dx dy d Q rx ry hf e k => by
  unfold gEqDI at e
  split at e
  · split at e
    · rename_i l hl
      split at e
      · rename_i m hm
        cases e
        obtain ⟨a, ka, rfl, ha, eka, ra⟩ := rx.dK
        obtain ⟨b, kb, rfl, hb, ekb, rb⟩ := ry.dK
        have e1 := intKV_rep hl eka ra
        have e2 := intKV_rep hm ekb rb
        subst e1 e2
        exact ⟨a, b, l, m, rfl, rfl, ha, hb, k _ H (fun _ _ h => h) .bl fun _ => NewV.no fun p q => nomatch q⟩
      · cases e
    · cases e
  · cases e
end
end GR
/-! JX -/
set_option linter.all false
set_option maxRecDepth 100000
set_option maxHeartbeats 4000000
/-! Ways that are not taken; divmod; x op= e; extend; the module's dict of tuples. -/
namespace GR
open PySem L2
section
variable [TabT] {X : Cx} {g : Cfg} {W : WX} {tn : Bool} {e : Expr} {st : Stmt}
theorem de_none : DE X g W tn e (fun _ => none) := ⟨fun pins s σ H Q I ⟨G, B, env, ok, q⟩ => q.elim⟩
theorem dt_none : DT X g W e (fun _ => none) := ⟨fun pins s σ H Q I ⟨G, B, env, r, env', ok, q, _⟩ => nomatch q⟩
theorem ds_none : DS X g W tn st (fun _ => none) := ⟨fun pins s σ H Dn I ⟨G, env, fl, env', ok, q, _⟩ => nomatch q⟩
end
/-! ### divmod -/
def gDivmod : List D → Option D
  | [.int i, .int j] => if j ≠ 0 ∧ j.natAbs.log2 < 9000 then some (.tup [.int (i.fdiv j), .int (i.fmod j)]) else none
  | _ => none
theorem noPy {i j : Int} (h : j.natAbs.log2 < 9000) : Builtin.divisionGoesByPylong i j = false := by
  unfold Builtin.divisionGoesByPylong
  simp only
  have : ¬ ((if j == 0 then 0 else j.natAbs.log2 / 30 + 1) > 300) := by
    split
    · omega
    · omega
  rw [decide_eq_false this]; rfl
section
variable [TabT] {X : Cx} {K : PySem.W.Frag}
def rDivmod : List V → Hp → VK → Prop := fun xs H Q => ∃ i j, xs = [.int i, .int j] ∧ j ≠ 0 ∧ j.natAbs.log2 < 9000 ∧ ∀ p, H p = none → Q (.ref p) (upd H p (.tup [.int (i.fdiv j), .int (i.fmod j)]))
theorem call_divmodF : CallR X (.builtin "divmod") rDivmod := by
  intro pins s σ H xs us Q I r h
  obtain ⟨i, j, rfl, h1, h2, q⟩ := h
  obtain ⟨u, w', rfl, ⟨t, rfl⟩, ⟨t', rfl⟩⟩ := vals2 r
  refine PyProof.Rows.divmod_int h1 ?_ (.inl (noPy h2))
  have hn : H s.heap.objs.size = none := I.hok.fresh (Nat.le_refl _)
  refine ⟨.ref s.heap.objs.size, _, ?_, rfl, q _ hn⟩
  refine I.laid (fun b o e => Heap.get?_push_of_some _ e) (Nat.le_refl _) ⟨by simp only [List.length_cons, List.length_nil]; rw [sizeLine_eq]; decide, [.int (i.fdiv j) s.toks, .int (i.fmod j) (s.toks + 1)], .cons ⟨_, rfl⟩ (.cons ⟨_, rfl⟩ .nil), ?_⟩
  exact ⟨_, Heap.get?_push_size s.heap rfl, rfl, 0, rfl⟩
theorem n_divmod : OpN K rDivmod true gDivmod := fun H R L xs ds d Q r hf e k => by
  unfold gDivmod at e
  split at e
  · split at e
    · rename_i i j hc
      cases r with
      | cons r1 r2 =>
        cases r2 with
        | cons r2 r3 =>
          cases r3
          obtain rfl := r1.int
          obtain rfl := r2.int
          cases e
          refine ⟨i, j, rfl, hc.1, hc.2, fun p hp => ?_⟩
          exact k _ _ (upd_same_of hp) (Rep.newTup hp (.cons .int (.cons .int .nil))) fun _ => NewV.upd hp fun _ _ z => nomatch z
    · cases e
  · cases e
end
/-! ### x op= e, ints -/
def fAug (f : Int → Int → Int) (i : Nat) (fe : EF) : SF := fun env => match env[i]?.join with
  | some (.int a) => match fe env with
    | some (.exc C d, e) => some (.exc C d, e)
    | some (.val (.int b), e) => some (.nx, e.set i (some (.int (f a b))))
    | _ => none
  | _ => none
section
variable [TabT] {X : Cx} {g : Cfg} {W : WX} {tn tn' ti tv : Bool} {e ie : Expr} {fe fi : EF} {pos pos' pos2 tpos : Pos} {op : Operator} {f : Int → Int → Int}
theorem ds_aug (i : Nat) {x : Str} (ho : PIp X op (ipI f)) (he : DE X g W tn' e fe) (hN : X.N.Nodup) (hi : i ∉ g.own := by walk_at "gmem") (hxf : exFree g i = true := by rfl) (hx : X.N[i]? = some x := by rfl) (hl : Loc X.env.scope x := by first | exact Or.inl rfl | exact Or.inr rfl)
    (hf : X.fn x = true ∨ X.env.scope.names.lookup x = some .local := by first | exact .inl rfl | exact .inr rfl | assumption) : DS X g W tn (.AugAssign (.Name x pos') op e pos) (fAug f i fe) := (ps_aug hN hx hl he ho hf).imp fun Dn σ H ⟨G, env, fl, env', ok, ee, q⟩ => by
  unfold fAug at ee
  split at ee
  · rename_i a e0
    obtain ⟨v, hv, rv⟩ := ok.val i _ (join_of e0) hi
    cases rv
    refine ⟨_, hv, ?_⟩
    cases e1 : fe env with
    | none => rw [e1] at ee; cases ee
    | some re =>
      obtain ⟨r, env1⟩ := re
      rw [e1] at ee
      refine DEr.intro ok e1 (fun y H' s l t => ?_) (fun C d er a H' s ha => ?_)
      · cases r with
        | val d =>
          cases d with
          | int b =>
            cases l
            cases ee
            exact ⟨a, b, rfl, rfl, q _ _ (s.ok.set hi hxf .int)⟩
          | _ => cases ee
        | slot i => cases ee
        | exc C d => exact l.elim
      · subst er; cases ee; exact q a σ H' s.ok ha
  · cases ee
/-- an item of a list -/
def rGetL : V → V → Hp → VK → Prop := fun o i H Q => ∃ p xs k v, o = .ref p ∧ i = .int k ∧ H p = some (.lst xs) ∧ 0 ≤ k ∧ xs[k.toNat]? = some v ∧ Q v H
theorem get_listN : PGet X rGetL := by
  intro pins s σ H o i ov iv Q I ro ri h
  obtain ⟨p, xs, k, v, rfl, rfl, hp, hk, hv, q⟩ := h
  cases ro
  obtain ⟨t, rfl⟩ := ri
  obtain ⟨its, r, pl, hz⟩ := I.list (.inl (.inl hp))
  obtain ⟨w, ew, rw'⟩ := r.get hv
  have hl := r.length
  have hn := line63
  have hlt : k.toNat < xs.length := by
    rcases Nat.lt_or_ge k.toNat xs.length with z | z
    · exact z
    · rw [List.getElem?_eq_none z] at hv; cases hv
  exact PyProof.Rows.getItem_listL pl.isList hk (by omega) ew ⟨v, H, I, rw', q⟩
def fAugIx (f : Int → Int → Int) (j : Nat) (fi fe : EF) : SF := fun env => match env[j]?.join with
  | some (.lst _) => match fi env with
    | some (.exc C d, e) => some (.exc C d, e)
    | some (.val (.int k), e) => match e[j]?.join with
      | some (.lst ds) => match ds[k.toNat]? with
        | some (.int a) => if k < 0 then none else match fe e with
          | some (.exc C d, e2) => some (.exc C d, e2)
          | some (.val (.int b), e2) => match e2[j]?.join with
            | some (.lst ds2) => if k.toNat < ds2.length then some (.nx, e2.set j (some (.lst (ds2.set k.toNat (.int (f a b)))))) else none
            | _ => none
          | _ => none
        | _ => none
      | _ => none
    | _ => none
  | _ => none
theorem ds_augIx (j : Nat) {x : Str} (ho : PIp X op (ipI f)) (hi : DE X g W ti ie fi) (he : DE X g W tv e fe) (hj : j ∈ g.own := by walk_at "gmem") (hN : X.N[j]? = some x := by rfl) (hv : Vis X.env.scope x := by first | exact Or.inl rfl | exact Or.inr (Or.inl rfl) | exact Or.inr (Or.inr rfl))
    (hd : (x == ("__debug__" : Str)) = false := by decide) (hcd : (x == ("__classdict__" : Str)) = false := by decide)
    (ha : ∀ ov iv new, augStore ie ov iv new = (do holding [new, ov, iv] (setItem ov iv new); release [new, ov, iv] []; pure .next) := by intros; rfl) :
    DS X g W tn (.AugAssign (.Subscript (.Name x pos2) ie tpos) op e pos) (fAugIx f j fi fe) := (ps_augS (pv j hN hv hd hcd) hi get_listN he ho set_list ha).imp fun Dn σ H ⟨G, env, fl, env', ok, ee, q⟩ => by
  unfold fAugIx at ee
  split at ee
  case h_2 => cases ee
  rename_i ds0 e0
  obtain ⟨p, hp, _⟩ := ok.own j _ (join_of e0) hj
  refine ⟨_, hp, ?_⟩
  cases e1 : fi env with
  | none => rw [e1] at ee; cases ee
  | some re =>
    obtain ⟨r, env1⟩ := re
    rw [e1] at ee
    refine DEr.intro ok e1 (fun iv H1 s1 l1 t1 => ?_) (fun C d er a H' s ha => ?_)
    · cases r with
      | slot i => cases ee
      | exc C d => exact l1.elim
      | val di =>
        cases di with
        | int k =>
          cases l1
          simp only at ee
          split at ee
          case h_2 => cases ee
          rename_i ds e2
          obtain ⟨p2, hp2, ow2, _⟩ := s1.ok.own j _ (join_of e2) hj
          rw [hp] at hp2; cases hp2
          obtain ⟨vs, hh, rr⟩ := ow2
          split at ee
          case h_2 => cases ee
          rename_i a ea
          obtain ⟨va, hva, ra⟩ := rr.get ea
          cases ra
          split at ee
          · cases ee
          rename_i hk
          refine ⟨p, vs, k, _, rfl, rfl, hh, by omega, hva, ?_⟩
          cases e3 : fe env1 with
          | none => rw [e3] at ee; cases ee
          | some re3 =>
            obtain ⟨r3, env3⟩ := re3
            rw [e3] at ee
            refine DEr.intro s1.ok e3 (fun bv H3 s3 l3 t3 => ?_) (fun C d er a H' s ha => ?_)
            · cases r3 with
              | slot i => cases ee
              | exc C d => exact l3.elim
              | val db =>
                cases db with
                | int b =>
                  cases l3
                  simp only at ee
                  split at ee
                  case h_2 => cases ee
                  rename_i ds2 e4
                  obtain ⟨p3, hp3, ow3, _⟩ := s3.ok.own j _ (join_of e4) hj
                  rw [hp] at hp3; cases hp3
                  have bx := ow3.box
                  obtain ⟨vs3, hh3, rr3⟩ := ow3
                  split at ee
                  case isFalse => cases ee
                  rename_i hlt
                  cases ee
                  refine ⟨a, b, rfl, rfl, ?_⟩
                  have lp : Live g env3 σ p := ⟨j, _, hj, join_of e4, hp⟩
                  refine ⟨p, vs3, k, k.toNat, rfl, rfl, hh3, ?_, ?_⟩
                  · unfold ixN
                    rw [if_pos (by omega), if_pos (by rw [rr3.len]; omega)]
                  · refine q _ _ (s3.ok.put hj (join_of e4) hp hh3 (.inl ⟨_, rfl⟩) (show OwnAt X.K _ _ p (.lst _) from ⟨_, upd_same, ?_⟩)).ok
                    refine (rr3.set .int k.toNat).fr fun u o h e => ?_
                    have ne : u ≠ p := by
                      rintro rfl
                      rcases h with h | h
                      · exact h.1.2 lp
                      · rw [hh3] at e; cases e; exact h.elim
                    exact ⟨o, by rw [upd_ne ne]; exact e, Vary.refl _⟩
                | _ => cases ee
            · subst er; cases ee; exact q a σ H' s.ok ha
        | _ => cases ee
    · subst er; cases ee; exact q a σ H' s.ok ha
end
/-! ### x.extend(..) -/
def gExtend : D → List D → Option (D × D)
  | .lst xs, [.lst ys] => if xs.length + ys.length ≤ 16777216 then some (.non, .lst (xs ++ ys)) else none
  | _, _ => none
theorem m_extend [TabT] {K : PySem.W.Frag} : MutM K "list" rExtend gExtend := fun H R p c xs ds res c' Q ow nr rr e k => by
  unfold gExtend at e
  split at e
  · split at e
    · rename_i hl
      cases e
      obtain ⟨vs, hh, r⟩ := ow
      cases rr with
      | cons r1 r2 =>
        cases r2
        cases r1 with
        | lst q h r1 =>
          refine ⟨p, _, vs, _, rfl, rfl, hh, h, by rw [r.len, r1.len, sizeLine_eq]; exact hl, k _ _ ⟨_, upd_same, (r.append (r1.mono fun _ x => x.1)).fr (fr_put nr hh (.inl ⟨_, rfl⟩))⟩ .non⟩
    · cases e
  · cases e
end GR
/-! JY -/
set_option linter.all false
set_option maxRecDepth 100000
set_option maxHeartbeats 4000000
/-! A dict of the module: ints to tuples of ints. -/
namespace GR
open PySem L2
abbrev KTb : Type := List (Int × List Int)
def KDt (K : PySem.W.Frag) (a : Addr) (tbl : KTb) : Prop := ∃ es n, K.lookup a = some ⟨.type "dict", none, .dict es n, #[]⟩ ∧ (∀ e ∈ es.toList, ∃ j t, e.key = .int j t ∧ e.hash = hashInt j) ∧
  ∀ p ∈ tbl, ∃ e b, es.toList.find? (fun e => keyIs (.inl p.1) e.key) = some e ∧ e.val = .ref b ∧ ∀ H, SqT K H b (p.2.map V.int)
def gKd (tbl : KTb) : D → D → Option D
  | _, .int i => (tbl.find? fun p => decide (p.1 = i)).map fun p => .tup (p.2.map D.int)
  | _, _ => none
def rKd (K : PySem.W.Frag) (a : Addr) (tbl : KTb) : R2 := fun x y H Q => x = .ref a ∧ ∃ i p, y = .int i ∧ p ∈ tbl ∧ p.1 = i ∧ ∀ b, (∀ H, SqT K H b (p.2.map V.int)) → Q (.ref b) H
section
variable [TabT] {X : Cx} {g : Cfg} {W : WX} {tb : Bool} {b : Expr} {fb : EF} {pos p1 : Pos} {a : Addr} {tbl : KTb}
theorem ix_kd (h : KDt X.K a tbl) : IxR X (rKd X.K a tbl) := by
  intro value slice pins s σ H x y v u Q I rx ry hh hs
  obtain ⟨rfl, i, p, rfl, hp, rfl, q⟩ := hh
  obtain ⟨es, n, hl, hk, ht⟩ := h
  obtain ⟨e, b, hf, hv, hb⟩ := ht p hp
  obtain rfl : v = Value.ref a := rx
  obtain ⟨t, rfl⟩ := ry
  have hm : s.heap.MapOf (mixKind X.prog X.w) a (fun k => findBy (mixKind X.prog X.w).is es k) := ⟨_, es, n, I.kIn _ _ hl, ⟨rfl, rfl, rfl⟩, rfl, fun e he => by
    obtain ⟨j, t, e1, e2⟩ := hk e (Array.mem_toList_iff.mpr he)
    exact ⟨.inl j, by rw [e1]; exact mixKind_int X.prog X.w j t, e2⟩, fun _ => rfl⟩
  have hf' : findBy (mixKind X.prog X.w).is es (.inl p.1) = some (.ref b) := by
    obtain ⟨l⟩ := es
    unfold findBy
    rw [List.find?_toArray]
    rw [← hv]
    exact congrArg (Option.map (·.val)) hf
  exact subTail hm.typeIs PySem.F.slot_dict_getitem.lookup (wpAny_getItem_of (mixKind_int X.prog X.w p.1 t) hm hf' ⟨.ref b, H, I.tok _, rfl, q b hb⟩) hs
theorem o2_kd {K : PySem.W.Frag} : Op2 K (rKd K a tbl) false fun x y => match x with
    | .gl c => if c = a then gKd tbl .non y else none
    | _ => none := fun H R L x y dx dy d Q rx ry hf e k => by
  simp only at e
  split at e
  · split at e
    · rename_i c hc
      subst hc
      unfold gKd at e
      split at e
      · rename_i i
        obtain ⟨p, hp, rfl⟩ := Option.map_eq_some_iff.mp e
        have m1 := List.mem_of_find?_eq_some hp
        have m2 : p.1 = i := by simpa using List.find?_some hp
        obtain rfl := rx.gl
        obtain rfl := ry.int
        refine ⟨rfl, i, p, rfl, m1, m2, fun b hb => k _ H (fun _ _ h => h) (.tup (hb H) ?_) fun z => nomatch z⟩
        have : ∀ l : List Int, Reps K H R (l.map V.int) (l.map D.int) := fun l => by
          induction l with
          | nil => exact .nil
          | cons _ _ ih => exact .cons .int ih
        exact this _
      · cases e
    · cases e
  · cases e
theorem de_kd {x : Str} (h : ∃ a, X.mg x = some (.ref a) ∧ KDt X.K a tbl) (hb : DE X g W tb b fb) (hp : PlainIx b) (hg : Gl X x := by rfl) (hd : (x == ("__debug__" : Str)) = false := by decide) : DE X g W false (.Subscript (.Name x p1) b pos) (fOp2 (gKd tbl) (fC .non) fb) := by
  obtain ⟨a, h1, h2⟩ := h
  have := de_ix (pos := pos) (ix_kd h2) o2_kd (de_glob (g := g) (W := W) (pos := p1) hg h1 (show RelV (.ref a) (.ref a) from rfl) (fun _ _ => .gl) hd) hb hp
  have e : (fOp2 (fun x y => match x with
    | .gl c => if c = a then gKd tbl .non y else none
    | _ => none) (fC (.gl a)) fb) = fOp2 (gKd tbl) (fC .non) fb := by
    funext env
    simp only [fOp2, bind1, fC, res, if_true]
  rw [← e]
  exact this
end
/-! ### as the head shows it -/
def tupAtB (K : PySem.W.Frag) (v : Value) (is : List Int) : Bool := match v with
  | .ref b => (match K.lookup b with
    | some ⟨.type c, _, .seq its _, _⟩ => decide (c = "tuple") && (decide (its.size ≤ sizeLine) && He.relAll (is.map V.int) its.toList)
    | _ => false)
  | _ => false
def entB (e : DictEntry) : Bool := match e.key with
  | .int j _ => decide (e.hash = hashInt j)
  | _ => false
def kdB (K : PySem.W.Frag) (x : Str) (tbl : KTb) : Bool := match K.lookup (He.ga K x) with
  | some ⟨.type c, none, .dict es _, sl⟩ => decide (c = "dict") && (sl.isEmpty && (es.toList.all entB && tbl.all fun p => (match es.toList.find? fun e => keyIs (.inl p.1) e.key with
    | some e => tupAtB K e.val p.2
    | none => false)))
  | _ => false
theorem tupAtB_ok {K : PySem.W.Frag} {v : Value} {is : List Int} (h : tupAtB K v is = true) : ∃ b, v = .ref b ∧ ∀ H, SqT K H b (is.map V.int) := by
  unfold tupAtB at h
  split at h
  · rename_i b
    refine ⟨b, rfl, fun H => ?_⟩
    split at h
    · rename_i c dt its n sl q
      obtain ⟨h1, h2⟩ := He.ba h
      obtain ⟨h3, h4⟩ := He.ba h2
      have hc := of_decide_eq_true h1
      subst hc
      exact .inr ⟨_, its, n, q, rfl, rfl, of_decide_eq_true h3, He.relAll_ok h4⟩
    · cases h
  · cases h
theorem kdB_ok {K : PySem.W.Frag} {x : Str} {tbl : KTb} (h : kdB K x tbl = true) : KDt K (He.ga K x) tbl := by
  unfold kdB at h
  split at h
  · rename_i c es n sl q
    obtain ⟨h1, h2⟩ := He.ba h
    obtain ⟨h3, h4⟩ := He.ba h2
    obtain ⟨h5, h6⟩ := He.ba h4
    have hc := of_decide_eq_true h1
    subst hc
    have hs : sl = #[] := Array.isEmpty_iff.mp h3
    subst hs
    refine ⟨es, n, q, fun e he => ?_, fun p hp => ?_⟩
    · have := List.all_eq_true.mp h5 e he
      unfold entB at this
      split at this
      · rename_i j t ek
        exact ⟨j, t, ek, of_decide_eq_true this⟩
      · cases this
    · have := List.all_eq_true.mp h6 p hp
      split at this
      · rename_i e he
        obtain ⟨b, e1, e2⟩ := tupAtB_ok this
        exact ⟨e, b, he, e1, e2⟩
      · cases this
  · cases h
end GR
namespace GR
open PySem L2
theorem Paired.at {α β : Type} {F : α → β → Prop} : ∀ {l1 : List α} {l2 : List β}, Paired F l1 l2 → ∀ i : Nat, (l1[i]? = none ∧ l2[i]? = none) ∨ ∃ a b, l1[i]? = some a ∧ l2[i]? = some b ∧ F a b
  | _, _, .nil, i => .inl ⟨by simp, by simp⟩
  | _, _, .cons (a := a) (b := b) h r, 0 => .inr ⟨a, b, by simp, by simp, h⟩
  | _, _, .cons h r, i + 1 => by
    rcases Paired.at r i with ⟨h1, h2⟩ | ⟨a, b, h1, h2, h3⟩
    · exact .inl ⟨by simpa using h1, by simpa using h2⟩
    · exact .inr ⟨a, b, by simpa using h1, by simpa using h2, h3⟩
/-- the parameters' places among the words of a call -/
def perL (ix : List Nat) : Perm := ⟨fun l => ix.filterMap fun i => l[i]?, fun {α β F l1 l2} h => by
  induction ix with
  | nil => exact .nil
  | cons i ix ih =>
    rcases Paired.at h i with ⟨h1, h2⟩ | ⟨a, b, h1, h2, h3⟩
    · rw [List.filterMap_cons, List.filterMap_cons, h1, h2]; exact ih
    · rw [List.filterMap_cons, List.filterMap_cons, h1, h2]; exact .cons h3 ih⟩
theorem ty_extend : typeOf (.builtin "list.extend") = pure (.type "method_descriptor") := by show builtinType _ = _; rw [builtinType_eq_fast]; kernel_rfl
def fuW : Env → Nat := fun _ => 65536
end GR
/-! K04 -/
set_option linter.all false
set_option maxRecDepth 100000
set_option maxHeartbeats 0
namespace K04
open PySem PySem.Spec PyProof.Rows L2 GR
def top (i : Nat) : Stmt := PySem.Challenge.pw_grownrows_k04_next_rows.main.body.getD i (.Pass ⟨0, 0, 0, 0⟩)
def inn (s : Stmt) (j : Nat) : Stmt := match s with
  | .ClassDef _ _ _ b .. => b.getD j (.Pass ⟨0, 0, 0, 0⟩)
  | _ => .Pass ⟨0, 0, 0, 0⟩
def nm : List Str := ["GrowthError", "InvalidPrime", "InvalidTerm", "InvalidRow"]
def frees : List Str := ["divmod", "len", "range", "enumerate", "max", "min", "abs", "int", "list", "tuple", "dict", "sum", "sorted", "repr", "isinstance", "ValueError"]

abbrev s_check_row : Stmt := top 6
abbrev s_check_rule : Stmt := top 11
abbrev s_Rule_init : Stmt := inn (top 9) 0
abbrev s_Rule_eq : Stmt := inn (top 9) 1
abbrev s_Rule_prime : Stmt := inn (top 9) 2
abbrev s_Rule_terms : Stmt := inn (top 9) 3
abbrev s_Rule_mirrored : Stmt := inn (top 9) 4
abbrev s_grown_once : Stmt := top 10
abbrev s_Rule_next_row : Stmt := inn (top 9) 5
abbrev s_law_pool : Stmt := top 13
abbrev s_law_draw : Stmt := top 14
abbrev s_law_kind : Stmt := top 15
abbrev s_law_made : Stmt := top 16
abbrev s_law_row : Stmt := top 17
abbrev s_law_step : Stmt := top 18
abbrev s_law_walk : Stmt := top 19
abbrev s_law_turned : Stmt := top 20
abbrev s_law_right : Stmt := top 21
abbrev s_law : Stmt := top 22
abbrev s_err : Stmt := inn (top 1) 0
def d_PRIMES : D := .tup [.int 2, .int 3, .int 5]
/-- what the module gives -/
structure ZEnv (K : PySem.W.Frag) (mg : Str → Option Value) (cR : Addr) : Prop where
  free : ∀ x ∈ frees, mg x = none
  cls : Cls K cR
  noat : ∀ x ∈ (["_prime", "_terms"] : List Str), NoAttr K cR x
  ty : InsTy K cR
  rule : mg "Rule" = some (.ref cR)
  r_PRIMES : ∃ a, mg "PRIMES" = some (.ref a) ∧ ∀ H R, Rep K H R (.ref a) d_PRIMES
section
variable [TabT] {P : Program} {w : World} {K : PySem.W.Frag} {mg : Str → Option Value} {base : Heap} {ca : Nat → Addr} {cR fI : Addr}
theorem ZEnv.d_rule {X : Cx} {g : Cfg} {W : WX} {p : Pos} (Z : ZEnv X.K X.mg cR) (hg : Gl X "Rule" := by rfl) : DE X g W false (.Name "Rule" p) (fC (.gl cR)) := de_glob hg Z.rule (show RelV (.ref cR) (.ref cR) from rfl) fun _ _ => .gl
theorem ZEnv.d_PRIMES {X : Cx} {g : Cfg} {W : WX} {p : Pos} (Z : ZEnv X.K X.mg cR) (hg : Gl X "PRIMES" := by rfl) : DE X g W false (.Name "PRIMES" p) (fC d_PRIMES) := by
  obtain ⟨a, h1, h2⟩ := Z.r_PRIMES
  exact de_glob hg h1 (show RelV (.ref a) (.ref a) from rfl) h2
abbrev g_check_row : Cfg := ⟨[], [], [], []⟩
def f_check_row (ca : Nat → Addr) (cR : Addr) : SF := (fSeq (fSet2 g_check_row 2 3 (fC (.int 0)))
 (fFor [4, 5] (fItems lstItems (fVar 1)) (tgTup [(tgName 4), (tgName 5)]) (fSeq (fIf (fOr (fNot (fBool (fChain gLt gLt (fC (.int 0)) (fVar 5) (fVar 0)))) (fAnd (fBool (fOp2 gGt (fVar 2) (fC (.int 0)))) (fBool (fOp2 gLe (fVar 4) (fVar 3))))) (fRaise g_check_row (ca 3) (fVar 2)) fNext)
 (fPars g_check_row [2, 3] [(false, (fOp2 gAdd (fVar 2) (fC (.int 1)))), (false, (fVar 4))]))))
def G_check_row (ca : Nat → Addr) (cR : Addr) : GF := runD 2 6 [] (f_check_row ca cR)
theorem sc_check_row : FnScope ["prime", "row", "number", "before", "place", "value"] ["prime", "row"] (defScope s_check_row) := ⟨rfl, rfl, rfl, by decide +kernel, rfl, by decide +kernel, by decide +kernel⟩
theorem ok_check_row (Z : ZEnv K mg cR) (ET : Errs K mg ca fI nm) {f : Addr} {fd : FuncData} (F : L2.Fun K "check_row" "check_row" s_check_row f fd)  : FnG P w K mg base (L2.CX P w) (0 + 1) f fd ["prime", "row"] (spD K true [] (G_check_row ca cR)) :=
  def_ok F sc_check_row (own := []) (io := []) (hb := fun cdv A outer s H E hr => by
    have nd := sc_check_row.nd
    have hu0 := hr.room.un
    have hu : (A.deeper (envOfC "check_row" (defScope s_check_row) s.heap.objs.size f cdv)).units + 64 < cLine := by omega
    have hu1 : (A.deeper (envOfC "check_row" (defScope s_check_row) s.heap.objs.size f cdv)).units + 1 < cLine := by omega
    have tk := takes_def (P := P) (w := w) (K := K) (mg := mg) (base := base) (N := ["prime", "row", "number", "before", "place", "value"]) (qual := "check_row") (scope := defScope s_check_row) (f := f) (cdv := cdv) (A := A) (outer := outer) (s := s) (H := H) (E := E)
    have pw := passes_def (P := P) (w := w) (K := K) (mg := mg) (base := base) (N := ["prime", "row", "number", "before", "place", "value"]) (qual := "check_row") (scope := defScope s_check_row) (f := f) (cdv := cdv) (A := A) (outer := outer) (s := s) (H := H) (E := E)
    exact (dss_cons (ds_set2 2 3 de_int nd)
 (dss_one (ds_for [4, 5] [4, 5] pw rfl (di_list (de_var 1)) (dg_tup rfl (dgs_cons (dg_name 4 (hN := nd)) (dgs_cons (dg_name 5 (hN := nd)) dgs_nil)))
 (dss_cons (ds_if (DW.dt (dw_or (dt_not (dt_chain op_lt o2_lt op_lt o2_lt de_int (de_var 5) (de_var 0))) (dw_or1 (DW.dt (dw_and (dt_cmp op_gt o2_gt (de_var 2) de_int rfl) (dw_and1 (dt_cmp op_le o2_le (de_var 4) (de_var 3) rfl)))))))
 (dss_one (ds_raise (k := 0) rfl (ET.txt 3 "InvalidRow" rfl) (hr.mono (Nat.zero_le _)) tk (de_var 2) (by rfl)))
 dss_nil)
 (dss_one (ds_par2 2 3 false false rfl nd (de_bin op_add3 o2_add (de_var 2) de_int) (de_var 4))))))))
abbrev g_check_rule : Cfg := ⟨[2], [], [], []⟩
def f_check_rule (ca : Nat → Addr) (cR : Addr) : SF := (fSeq (fIf (fBool (fOp2 (gIn true) (fVar 0) (fC d_PRIMES))) (fRaise g_check_rule (ca 1) (fVar 0)) fNext)
 (fSeq (fIf (fNot (fTruth (fVar 1))) (fRaise g_check_rule (ca 2) (fC .non)) fNext)
 (fSeq (fSetOwn g_check_rule 2 (fC (.dK [])))
 (fFor [3, 4, 5] (fItemsA enumItems (fACons (fVar 1) fANil)) (tgTup [(tgName 3), (tgTup [(tgName 4), (tgName 5)])]) (fSeq (fIf (fOr (fNot (fBool (fChain gLt gLt (fC (.int 0)) (fVar 4) (fVar 0)))) (fBool (fOp2 (gIn false) (fVar 5) (fOwn 2)))) (fRaise g_check_rule (ca 2) (fVar 3)) fNext)
 (fSetIx g_check_rule 2 (fVar 5) (fC (.bl true))))))))
def G_check_rule (ca : Nat → Addr) (cR : Addr) : GF := runD 2 6 [] (f_check_rule ca cR)
theorem sc_check_rule : FnScope ["prime", "terms", "offsets", "number", "coefficient", "offset"] ["prime", "terms"] (defScope s_check_rule) := ⟨rfl, rfl, rfl, by decide +kernel, rfl, by decide +kernel, by decide +kernel⟩
theorem ok_check_rule (Z : ZEnv K mg cR) (ET : Errs K mg ca fI nm) {f : Addr} {fd : FuncData} (F : L2.Fun K "_check_rule" "_check_rule" s_check_rule f fd)  : FnG P w K mg base (L2.CX P w) (0 + 1) f fd ["prime", "terms"] (spD K true [] (G_check_rule ca cR)) :=
  def_ok F sc_check_rule (own := [2]) (io := []) (hb := fun cdv A outer s H E hr => by
    have nd := sc_check_rule.nd
    have hu0 := hr.room.un
    have hu : (A.deeper (envOfC "_check_rule" (defScope s_check_rule) s.heap.objs.size f cdv)).units + 64 < cLine := by omega
    have hu1 : (A.deeper (envOfC "_check_rule" (defScope s_check_rule) s.heap.objs.size f cdv)).units + 1 < cLine := by omega
    have tk := takes_def (P := P) (w := w) (K := K) (mg := mg) (base := base) (N := ["prime", "terms", "offsets", "number", "coefficient", "offset"]) (qual := "_check_rule") (scope := defScope s_check_rule) (f := f) (cdv := cdv) (A := A) (outer := outer) (s := s) (H := H) (E := E)
    have pw := passes_def (P := P) (w := w) (K := K) (mg := mg) (base := base) (N := ["prime", "terms", "offsets", "number", "coefficient", "offset"]) (qual := "_check_rule") (scope := defScope s_check_rule) (f := f) (cdv := cdv) (A := A) (outer := outer) (s := s) (H := H) (E := E)
    exact (dss_cons (ds_if (dt_cmp (op_ni4 hu) o2_in (de_var 0) (Z.d_PRIMES) rfl)
 (dss_one (ds_raise (k := 0) rfl (ET.txt 1 "InvalidPrime" rfl) (hr.mono (Nat.zero_le _)) tk (de_var 0) (by rfl)))
 dss_nil)
 (dss_cons (ds_if (dt_not (dt_truth (de_var 1)))
 (dss_one (ds_raise (k := 0) rfl (ET.txt 2 "InvalidTerm" rfl) (hr.mono (Nat.zero_le _)) tk de_non (by rfl)))
 dss_nil)
 (dss_cons (ds_setOwn 2 de_dnew (hN := nd))
 (dss_one (ds_for [3, 4, 5] [3, 4, 5] pw rfl (di_enum (by rfl) (Z.free _ (by decide)) (da_cons (de_var 1) da_nil)) (dg_tup rfl (dgs_cons (dg_name 3 (hN := nd)) (dgs_cons (dg_tup rfl (dgs_cons (dg_name 4 (hN := nd)) (dgs_cons (dg_name 5 (hN := nd)) dgs_nil))) dgs_nil)))
 (dss_cons (ds_if (DW.dt (dw_or (dt_not (dt_chain op_lt o2_lt op_lt o2_lt de_int (de_var 4) (de_var 0))) (dw_or1 (dt_cmp (op_in4 hu) o2_in (de_var 5) (de_own 2) rfl))))
 (dss_one (ds_raise (k := 0) rfl (ET.txt 2 "InvalidTerm" rfl) (hr.mono (Nat.zero_le _)) tk (de_var 3) (by rfl)))
 dss_nil)
 (dss_one (ds_setIx 2 hu1 de_bl (de_var 5))))))))))
abbrev g_Rule_init : Cfg := ⟨[0], [0], [], []⟩
def f_Rule_init (ca : Nat → Addr) (cR : Addr) : SF := (fSeq (fExpr (fCall true [] (G_check_rule ca cR) (fACons (fVar 1) (fACons (fVar 2) fANil))))
 (fSeq (fSetFld g_Rule_init 0 cR "_prime" (fVar 1))
 (fSetFld g_Rule_init 0 cR "_terms" (fApp gTupOf (fACons (fSortKey 1 (fVar 2)) fANil)))))
def G_Rule_init (ca : Nat → Addr) (cR : Addr) : GF := runD 3 3 [0] (f_Rule_init ca cR)
theorem sc_Rule_init : FnScope ["self", "prime", "terms"] ["self", "prime", "terms"] (defScope s_Rule_init) := ⟨rfl, rfl, rfl, by decide +kernel, rfl, by decide +kernel, by decide +kernel⟩
theorem ok_Rule_init (Z : ZEnv K mg cR) (ET : Errs K mg ca fI nm) {f : Addr} {fd : FuncData} (F : L2.Fun K "__init__" "Rule.__init__" s_Rule_init f fd) (C_check_rule : Callee P w K mg base "_check_rule" s_check_rule ["prime", "terms"] true [] (G_check_rule ca cR) 1) {cd P0 : Addr} (TB : LamX.TabB base mg cd P0) (hcd : fd.code = .ref cd) (hmT : (P0, ("Rule.__init__.<locals>." : Str) ++ ("<lambda>" : Str)) ∈ TabT.T) (huT : ∀ p ∈ TabT.T, p.1 = P0 → p.2 = ("Rule.__init__.<locals>." : Str) ++ ("<lambda>" : Str)) : FnG P w K mg base (L2.CX P w) (3 + 1) f fd ["self", "prime", "terms"] (spD K true [0] (G_Rule_init ca cR)) :=
  def_okC F sc_Rule_init (own := [0]) (io := [0]) (hb := fun cdv A outer s H E hcode0 hr => by
    have nd := sc_Rule_init.nd
    have hu0 := hr.room.un
    have hu : (A.deeper (envOfC "Rule.__init__" (defScope s_Rule_init) s.heap.objs.size f cdv)).units + 64 < cLine := by omega
    have hu1 : (A.deeper (envOfC "Rule.__init__" (defScope s_Rule_init) s.heap.objs.size f cdv)).units + 1 < cLine := by omega
    have tk := takes_def (P := P) (w := w) (K := K) (mg := mg) (base := base) (N := ["self", "prime", "terms"]) (qual := "Rule.__init__") (scope := defScope s_Rule_init) (f := f) (cdv := cdv) (A := A) (outer := outer) (s := s) (H := H) (E := E)
    have pw := passes_def (P := P) (w := w) (K := K) (mg := mg) (base := base) (N := ["self", "prime", "terms"]) (qual := "Rule.__init__") (scope := defScope s_Rule_init) (f := f) (cdv := cdv) (A := A) (outer := outer) (s := s) (H := H) (E := E)
    have hcode : (cxOf (L2.CX P w) P w K mg base ["self", "prime", "terms"] "Rule.__init__" (defScope s_Rule_init) f cdv A outer s H E).env.code = .ref cd := (hcode0.symm.trans hcd)
    exact (dss_cons (ds_expr (de_call C_check_rule (hr.mono (by decide)) tk (by rfl) (da_cons (de_var 1) (da_cons (de_var 2) da_nil))))
 (dss_cons (ds_setFld 0 Z.cls (Z.noat _ (by decide)) (de_var 1))
 (dss_one (ds_setFld 0 Z.cls (Z.noat _ (by decide)) (de_callTy call_tuple_of n_tuple (by rfl) (Z.free _ (by decide)) (by rfl) (da_cons (de_sortKey (k := 0) 1 (by rfl) (Z.free _ (by decide)) (hr.mono (by decide)) TB hcode hmT huT ⟨fun _ _ _ _ _ _ _ => rfl, rfl, rfl, rfl, by decide +kernel, rfl, rfl⟩ (de_var 2)) da_nil)))))))
abbrev g_Rule_eq : Cfg := ⟨[], [], [], []⟩
def f_Rule_eq (ca : Nat → Addr) (cR : Addr) : SF := (fSeq (fIf (fNot (fTruth (fApp (gIsi cR) (fACons (fVar 1) (fACons (fC (.gl cR)) fANil))))) (fRet g_Rule_eq (fC (.bl false))) fNext)
 (fRet g_Rule_eq (fAndE (fOp2 gEqA (fOp1 (gFld cR "_prime") (fVar 0)) (fOp1 (gFld cR "_prime") (fVar 1))) (fOp2 gEqA (fOp1 (gFld cR "_terms") (fVar 0)) (fOp1 (gFld cR "_terms") (fVar 1))))))
def G_Rule_eq (ca : Nat → Addr) (cR : Addr) : GF := runD 2 2 [] (f_Rule_eq ca cR)
theorem sc_Rule_eq : FnScope ["self", "other"] ["self", "other"] (defScope s_Rule_eq) := ⟨rfl, rfl, rfl, by decide +kernel, rfl, by decide +kernel, by decide +kernel⟩
theorem ok_Rule_eq (Z : ZEnv K mg cR) (ET : Errs K mg ca fI nm) {f : Addr} {fd : FuncData} (F : L2.Fun K "__eq__" "Rule.__eq__" s_Rule_eq f fd)  : FnG P w K mg base (L2.CX P w) (0 + 1) f fd ["self", "other"] (spD K true [] (G_Rule_eq ca cR)) :=
  def_ok F sc_Rule_eq (own := []) (io := []) (hb := fun cdv A outer s H E hr => by
    have nd := sc_Rule_eq.nd
    have hu0 := hr.room.un
    have hu : (A.deeper (envOfC "Rule.__eq__" (defScope s_Rule_eq) s.heap.objs.size f cdv)).units + 64 < cLine := by omega
    have hu1 : (A.deeper (envOfC "Rule.__eq__" (defScope s_Rule_eq) s.heap.objs.size f cdv)).units + 1 < cLine := by omega
    have tk := takes_def (P := P) (w := w) (K := K) (mg := mg) (base := base) (N := ["self", "other"]) (qual := "Rule.__eq__") (scope := defScope s_Rule_eq) (f := f) (cdv := cdv) (A := A) (outer := outer) (s := s) (H := H) (E := E)
    have pw := passes_def (P := P) (w := w) (K := K) (mg := mg) (base := base) (N := ["self", "other"]) (qual := "Rule.__eq__") (scope := defScope s_Rule_eq) (f := f) (cdv := cdv) (A := A) (outer := outer) (s := s) (H := H) (E := E)
    exact (dss_cons (ds_if (dt_not (dt_truth (de_callB call_isi (n_isi Z.ty) (by rfl) (Z.free _ (by decide)) (by rfl) (da_cons (de_var 1) (da_cons (Z.d_rule) da_nil)))))
 (dss_one (ds_ret de_bl))
 dss_nil)
 (dss_one (ds_ret (de_and (de_cmp (op_eqA hu) o2_eqA (de_fld Z.cls (Z.noat _ (by decide)) (de_var 0)) (de_fld Z.cls (Z.noat _ (by decide)) (de_var 1)) rfl) (de_one (de_cmp (op_eqA hu) o2_eqA (de_fld Z.cls (Z.noat _ (by decide)) (de_var 0)) (de_fld Z.cls (Z.noat _ (by decide)) (de_var 1)) rfl)))))))
abbrev g_Rule_prime : Cfg := ⟨[], [], [], []⟩
def f_Rule_prime (ca : Nat → Addr) (cR : Addr) : SF := (fRet g_Rule_prime (fOp1 (gFld cR "_prime") (fVar 0)))
def G_Rule_prime (ca : Nat → Addr) (cR : Addr) : GF := runD 1 1 [] (f_Rule_prime ca cR)
theorem sc_Rule_prime : FnScope ["self"] ["self"] (defScope s_Rule_prime) := ⟨rfl, rfl, rfl, by decide +kernel, rfl, by decide +kernel, by decide +kernel⟩
theorem ok_Rule_prime (Z : ZEnv K mg cR) (ET : Errs K mg ca fI nm) {f : Addr} {fd : FuncData} (F : L2.Fun K "prime" "Rule.prime" s_Rule_prime f fd)  : FnG P w K mg base (L2.CX P w) (0 + 1) f fd ["self"] (spD K false [] (G_Rule_prime ca cR)) :=
  def_ok F sc_Rule_prime (own := []) (io := []) (hb := fun cdv A outer s H E hr => by
    have nd := sc_Rule_prime.nd
    have hu0 := hr.room.un
    have hu : (A.deeper (envOfC "Rule.prime" (defScope s_Rule_prime) s.heap.objs.size f cdv)).units + 64 < cLine := by omega
    have hu1 : (A.deeper (envOfC "Rule.prime" (defScope s_Rule_prime) s.heap.objs.size f cdv)).units + 1 < cLine := by omega
    have tk := takes_def (P := P) (w := w) (K := K) (mg := mg) (base := base) (N := ["self"]) (qual := "Rule.prime") (scope := defScope s_Rule_prime) (f := f) (cdv := cdv) (A := A) (outer := outer) (s := s) (H := H) (E := E)
    have pw := passes_def (P := P) (w := w) (K := K) (mg := mg) (base := base) (N := ["self"]) (qual := "Rule.prime") (scope := defScope s_Rule_prime) (f := f) (cdv := cdv) (A := A) (outer := outer) (s := s) (H := H) (E := E)
    exact (dss_one (ds_ret (de_fld Z.cls (Z.noat _ (by decide)) (de_var 0)))))
abbrev g_Rule_terms : Cfg := ⟨[], [], [], []⟩
def f_Rule_terms (ca : Nat → Addr) (cR : Addr) : SF := (fRet g_Rule_terms (fApp gListOf (fACons (fOp1 (gFld cR "_terms") (fVar 0)) fANil)))
def G_Rule_terms (ca : Nat → Addr) (cR : Addr) : GF := runD 1 1 [] (f_Rule_terms ca cR)
theorem sc_Rule_terms : FnScope ["self"] ["self"] (defScope s_Rule_terms) := ⟨rfl, rfl, rfl, by decide +kernel, rfl, by decide +kernel, by decide +kernel⟩
theorem ok_Rule_terms (Z : ZEnv K mg cR) (ET : Errs K mg ca fI nm) {f : Addr} {fd : FuncData} (F : L2.Fun K "terms" "Rule.terms" s_Rule_terms f fd)  : FnG P w K mg base (L2.CX P w) (0 + 1) f fd ["self"] (spD K true [] (G_Rule_terms ca cR)) :=
  def_ok F sc_Rule_terms (own := []) (io := []) (hb := fun cdv A outer s H E hr => by
    have nd := sc_Rule_terms.nd
    have hu0 := hr.room.un
    have hu : (A.deeper (envOfC "Rule.terms" (defScope s_Rule_terms) s.heap.objs.size f cdv)).units + 64 < cLine := by omega
    have hu1 : (A.deeper (envOfC "Rule.terms" (defScope s_Rule_terms) s.heap.objs.size f cdv)).units + 1 < cLine := by omega
    have tk := takes_def (P := P) (w := w) (K := K) (mg := mg) (base := base) (N := ["self"]) (qual := "Rule.terms") (scope := defScope s_Rule_terms) (f := f) (cdv := cdv) (A := A) (outer := outer) (s := s) (H := H) (E := E)
    have pw := passes_def (P := P) (w := w) (K := K) (mg := mg) (base := base) (N := ["self"]) (qual := "Rule.terms") (scope := defScope s_Rule_terms) (f := f) (cdv := cdv) (A := A) (outer := outer) (s := s) (H := H) (E := E)
    exact (dss_one (ds_ret (de_callTy (c_list rfl) n_list (by rfl) (Z.free _ (by decide)) (by rfl) (da_cons (de_fld Z.cls (Z.noat _ (by decide)) (de_var 0)) da_nil)))))
abbrev g_Rule_mirrored : Cfg := ⟨[], [], [], []⟩
def f_Rule_mirrored (ca : Nat → Addr) (cR : Addr) : SF := (fRet g_Rule_mirrored (fMake cR (G_Rule_init ca cR) (fACons (fOp1 (gFld cR "_prime") (fVar 0)) (fACons (fComp [1, 2] (fItems tupItems (fOp1 (gFld cR "_terms") (fVar 0))) (tgTup [(tgName 1), (tgName 2)]) fYes (fNew g_Rule_mirrored gTupD (fACons (fVar 1) (fACons (fOp1 gNeg (fVar 2)) fANil)))) fANil))))
def G_Rule_mirrored (ca : Nat → Addr) (cR : Addr) : GF := runD 1 3 [] (f_Rule_mirrored ca cR)
theorem sc_Rule_mirrored : FnScope ["self", "coefficient", "offset"] ["self"] (defScope s_Rule_mirrored) := ⟨rfl, rfl, rfl, by decide +kernel, rfl, by decide +kernel, by decide +kernel⟩
theorem ok_Rule_mirrored (Z : ZEnv K mg cR) (ET : Errs K mg ca fI nm) {f : Addr} {fd : FuncData} (F : L2.Fun K "mirrored" "Rule.mirrored" s_Rule_mirrored f fd) (M_Rule_init : MakeAt P w K mg base "Rule" cR ["self", "prime", "terms"] (G_Rule_init ca cR) 4) : FnG P w K mg base (L2.CX P w) (6 + 1) f fd ["self"] (spD K true [] (G_Rule_mirrored ca cR)) :=
  def_ok F sc_Rule_mirrored (own := []) (io := []) (hb := fun cdv A outer s H E hr => by
    have nd := sc_Rule_mirrored.nd
    have hu0 := hr.room.un
    have hu : (A.deeper (envOfC "Rule.mirrored" (defScope s_Rule_mirrored) s.heap.objs.size f cdv)).units + 64 < cLine := by omega
    have hu1 : (A.deeper (envOfC "Rule.mirrored" (defScope s_Rule_mirrored) s.heap.objs.size f cdv)).units + 1 < cLine := by omega
    have tk := takes_def (P := P) (w := w) (K := K) (mg := mg) (base := base) (N := ["self", "coefficient", "offset"]) (qual := "Rule.mirrored") (scope := defScope s_Rule_mirrored) (f := f) (cdv := cdv) (A := A) (outer := outer) (s := s) (H := H) (E := E)
    have pw := passes_def (P := P) (w := w) (K := K) (mg := mg) (base := base) (N := ["self", "coefficient", "offset"]) (qual := "Rule.mirrored") (scope := defScope s_Rule_mirrored) (f := f) (cdv := cdv) (A := A) (outer := outer) (s := s) (H := H) (E := E)
    exact (dss_one (ds_ret (de_make M_Rule_init (hr.mono (by decide)) tk (by rfl) (da_cons (de_fld Z.cls (Z.noat _ (by decide)) (de_var 0)) (da_cons (de_compN [("coefficient", 1), ("offset", 2)] rfl nd (blk_of (by rfl)) ((di_tup (de_fld Z.cls (Z.noat _ (by decide)) (de_var 0)))) (fun _ _ _ _ _ => (dg_tup rfl (dgs_cons (dg_name 1 (hN := nd)) (dgs_cons (dg_name 2 (hN := nd)) dgs_nil)))) (fun _ _ _ _ _ => dts_nil) (fun _ _ _ _ _ => (de_tup (da_cons (de_var 1) (da_cons (de_un un_neg o1_neg (de_var 2)) da_nil))))) da_nil))))))
abbrev g_grown_once : Cfg := ⟨[3], [], [], []⟩
def f_grown_once (ca : Nat → Addr) (cR : Addr) : SF := (fSeq (fSetOwn g_grown_once 3 (fC (.dK [])))
 (fSeq (fFor [5] (fItems lstItems (fVar 2)) (tgTup [(tgName 4), (tgName 5)]) (fFor [] (fItems tupItems (fVar 1)) (tgTup [(tgName 6), (tgName 7)]) (fSeq (fSet g_grown_once 8 (fOp2 gAdd (fVar 4) (fVar 7)))
 (fSetIx g_grown_once 3 (fVar 8) (fOp2 gAdd (fGet 0 (fOwn 3) (fVar 8)) (fOp2 gMul3 (fVar 6) (fVar 5)))))))
 (fRet g_grown_once (fBorD 3 (fComp [4] (fItems lstItems (fApp gSorted (fACons (fVar 3) fANil))) (tgName 4) (fBool (fOp2 gNeA (fOp2 gMod (fOp2 gIx (fVar 3) (fVar 4)) (fVar 0)) (fC (.int 0)))) (fNew g_grown_once gTupD (fACons (fVar 4) (fACons (fOp2 gMod (fOp2 gIx (fVar 3) (fVar 4)) (fVar 0)) fANil))))))))
def G_grown_once (ca : Nat → Addr) (cR : Addr) : GF := runD 3 9 [] (f_grown_once ca cR)
theorem sc_grown_once : FnScope ["prime", "terms", "row", "sums", "place", "value", "coefficient", "offset", "taker"] ["prime", "terms", "row"] (defScope s_grown_once) := ⟨rfl, rfl, rfl, by decide +kernel, rfl, by decide +kernel, by decide +kernel⟩
theorem ok_grown_once (Z : ZEnv K mg cR) (ET : Errs K mg ca fI nm) {f : Addr} {fd : FuncData} (F : L2.Fun K "grown_once" "grown_once" s_grown_once f fd)  : FnG P w K mg base (L2.CX P w) (0 + 1) f fd ["prime", "terms", "row"] (spD K true [] (G_grown_once ca cR)) :=
  def_ok F sc_grown_once (own := [3]) (io := []) (hb := fun cdv A outer s H E hr => by
    have nd := sc_grown_once.nd
    have hu0 := hr.room.un
    have hu : (A.deeper (envOfC "grown_once" (defScope s_grown_once) s.heap.objs.size f cdv)).units + 64 < cLine := by omega
    have hu1 : (A.deeper (envOfC "grown_once" (defScope s_grown_once) s.heap.objs.size f cdv)).units + 1 < cLine := by omega
    have tk := takes_def (P := P) (w := w) (K := K) (mg := mg) (base := base) (N := ["prime", "terms", "row", "sums", "place", "value", "coefficient", "offset", "taker"]) (qual := "grown_once") (scope := defScope s_grown_once) (f := f) (cdv := cdv) (A := A) (outer := outer) (s := s) (H := H) (E := E)
    have pw := passes_def (P := P) (w := w) (K := K) (mg := mg) (base := base) (N := ["prime", "terms", "row", "sums", "place", "value", "coefficient", "offset", "taker"]) (qual := "grown_once") (scope := defScope s_grown_once) (f := f) (cdv := cdv) (A := A) (outer := outer) (s := s) (H := H) (E := E)
    exact (dss_cons (ds_setOwn 3 de_dnew (hN := nd))
 (dss_cons (ds_for [5] [4, 5] pw rfl (di_list (de_var 2)) (dg_tup rfl (dgs_cons (dg_name 4 (hN := nd)) (dgs_cons (dg_name 5 (hN := nd)) dgs_nil)))
 (dss_one (ds_for [] [6, 7] pw rfl (di_tup (de_var 1)) (dg_tup rfl (dgs_cons (dg_name 6 (hN := nd)) (dgs_cons (dg_name 7 (hN := nd)) dgs_nil)))
 (dss_cons (ds_set 8 (de_bin op_add3 o2_add (de_var 4) (de_var 7)) (hN := nd))
 (dss_one (ds_setIx 3 hu1 (de_bin op_add3 o2_add (de_get hu1 (de_own 3) (de_var 8)) (de_bin op_mul3 o2_mul3 (de_var 6) (de_var 5))) (de_var 8)))))))
 (dss_one (ds_ret (de_borD 3 (fun _ => (de_compN [("place", 4)] rfl nd (blk_of (by rfl)) ((di_list (de_callB (c_sorted rfl) n_sorted (by rfl) (Z.free _ (by decide)) (by rfl) (da_cons (de_var 3) da_nil)))) (fun _ _ _ _ _ => (dg_name 4 (hN := nd))) (fun _ _ _ _ _ => (dts_one (dt_cmp (op_neA hu) o2_neA (de_bin op_mod o2_mod (de_ix (ix_any hu1) o2_ix (de_var 3) (de_var 4) (fun _ _ => rfl)) (de_var 0)) de_int rfl))) (fun _ _ _ _ _ => (de_tupG (da_cons (de_var 4) (da_cons (de_bin op_mod o2_mod (de_ix (ix_any hu1) o2_ix (de_var 3) (de_var 4) (fun _ _ => rfl)) (de_var 0)) da_nil))))))))))))
abbrev g_Rule_next_row : Cfg := ⟨[], [], [], []⟩
def f_Rule_next_row (ca : Nat → Addr) (cR : Addr) : SF := (fSeq (fExpr (fCall true [] (G_check_row ca cR) (fACons (fOp1 (gFld cR "_prime") (fVar 0)) (fACons (fVar 1) fANil))))
 (fRet g_Rule_next_row (fCall true [] (G_grown_once ca cR) (fACons (fOp1 (gFld cR "_prime") (fVar 0)) (fACons (fOp1 (gFld cR "_terms") (fVar 0)) (fACons (fVar 1) fANil))))))
def G_Rule_next_row (ca : Nat → Addr) (cR : Addr) : GF := runD 2 2 [] (f_Rule_next_row ca cR)
theorem sc_Rule_next_row : FnScope ["self", "row"] ["self", "row"] (defScope s_Rule_next_row) := ⟨rfl, rfl, rfl, by decide +kernel, rfl, by decide +kernel, by decide +kernel⟩
theorem ok_Rule_next_row (Z : ZEnv K mg cR) (ET : Errs K mg ca fI nm) {f : Addr} {fd : FuncData} (F : L2.Fun K "next_row" "Rule.next_row" s_Rule_next_row f fd) (C_check_row : Callee P w K mg base "check_row" s_check_row ["prime", "row"] true [] (G_check_row ca cR) 1) (C_grown_once : Callee P w K mg base "grown_once" s_grown_once ["prime", "terms", "row"] true [] (G_grown_once ca cR) 1) : FnG P w K mg base (L2.CX P w) (3 + 1) f fd ["self", "row"] (spD K true [] (G_Rule_next_row ca cR)) :=
  def_ok F sc_Rule_next_row (own := []) (io := []) (hb := fun cdv A outer s H E hr => by
    have nd := sc_Rule_next_row.nd
    have hu0 := hr.room.un
    have hu : (A.deeper (envOfC "Rule.next_row" (defScope s_Rule_next_row) s.heap.objs.size f cdv)).units + 64 < cLine := by omega
    have hu1 : (A.deeper (envOfC "Rule.next_row" (defScope s_Rule_next_row) s.heap.objs.size f cdv)).units + 1 < cLine := by omega
    have tk := takes_def (P := P) (w := w) (K := K) (mg := mg) (base := base) (N := ["self", "row"]) (qual := "Rule.next_row") (scope := defScope s_Rule_next_row) (f := f) (cdv := cdv) (A := A) (outer := outer) (s := s) (H := H) (E := E)
    have pw := passes_def (P := P) (w := w) (K := K) (mg := mg) (base := base) (N := ["self", "row"]) (qual := "Rule.next_row") (scope := defScope s_Rule_next_row) (f := f) (cdv := cdv) (A := A) (outer := outer) (s := s) (H := H) (E := E)
    exact (dss_cons (ds_expr (de_call C_check_row (hr.mono (by decide)) tk (by rfl) (da_cons (de_fld Z.cls (Z.noat _ (by decide)) (de_var 0)) (da_cons (de_var 1) da_nil))))
 (dss_one (ds_ret (de_call C_grown_once (hr.mono (by decide)) tk (by rfl) (da_cons (de_fld Z.cls (Z.noat _ (by decide)) (de_var 0)) (da_cons (de_fld Z.cls (Z.noat _ (by decide)) (de_var 0)) (da_cons (de_var 1) da_nil))))))))
abbrev g_law_pool : Cfg := ⟨[], [], [], []⟩
def f_law_pool (ca : Nat → Addr) (cR : Addr) : SF := (fSeq (fSet g_law_pool 2 (fC (.int 0)))
 (fSeq (fIf (fBool (fOp2 gLt (fVar 1) (fApp gLen (fACons (fVar 0) fANil)))) (fSet g_law_pool 2 (fOp2 gIx (fVar 0) (fVar 1))) fNext)
 (fRet g_law_pool (fNew g_law_pool gLstD (fACons (fApp gMax2 (fACons (fC (.int 0)) (fACons (fOp2 gSub (fApp gAbs (fACons (fVar 2) fANil)) (fOp2 gPow3 (fC (.int 10)) (fC (.int 18)))) fANil))) (fACons (fOp2 gAdd (fOp2 gMod (fApp gInt (fACons (fVar 2) fANil)) (fC (.int 2305843009213693951))) (fOp2 gMul3 (fC (.int 7368787)) (fOp2 gAdd (fVar 1) (fC (.int 1))))) (fACons (fC (.int 0)) fANil)))))))
def G_law_pool (ca : Nat → Addr) (cR : Addr) : GF := runD 2 3 [] (f_law_pool ca cR)
theorem sc_law_pool : FnScope ["script", "spot", "cell"] ["script", "spot"] (defScope s_law_pool) := ⟨rfl, rfl, rfl, by decide +kernel, rfl, by decide +kernel, by decide +kernel⟩
theorem ok_law_pool (Z : ZEnv K mg cR) (ET : Errs K mg ca fI nm) {f : Addr} {fd : FuncData} (F : L2.Fun K "_law_pool" "_law_pool" s_law_pool f fd)  : FnG P w K mg base (L2.CX P w) (0 + 1) f fd ["script", "spot"] (spD K true [] (G_law_pool ca cR)) :=
  def_ok F sc_law_pool (own := []) (io := []) (hb := fun cdv A outer s H E hr => by
    have nd := sc_law_pool.nd
    have hu0 := hr.room.un
    have hu : (A.deeper (envOfC "_law_pool" (defScope s_law_pool) s.heap.objs.size f cdv)).units + 64 < cLine := by omega
    have hu1 : (A.deeper (envOfC "_law_pool" (defScope s_law_pool) s.heap.objs.size f cdv)).units + 1 < cLine := by omega
    have tk := takes_def (P := P) (w := w) (K := K) (mg := mg) (base := base) (N := ["script", "spot", "cell"]) (qual := "_law_pool") (scope := defScope s_law_pool) (f := f) (cdv := cdv) (A := A) (outer := outer) (s := s) (H := H) (E := E)
    have pw := passes_def (P := P) (w := w) (K := K) (mg := mg) (base := base) (N := ["script", "spot", "cell"]) (qual := "_law_pool") (scope := defScope s_law_pool) (f := f) (cdv := cdv) (A := A) (outer := outer) (s := s) (H := H) (E := E)
    exact (dss_cons (ds_set 2 de_int (hN := nd))
 (dss_cons (ds_if (dt_cmp op_lt o2_lt (de_var 1) (de_callB c_len n_len (by rfl) (Z.free _ (by decide)) (by rfl) (da_cons (de_var 0) da_nil)) rfl)
 (dss_one (ds_set 2 (de_ix (ix_any hu1) o2_ix (de_var 0) (de_var 1) (fun _ _ => rfl)) (hN := nd)))
 dss_nil)
 (dss_one (ds_ret (de_lst (da_cons (de_callB (call_max2 rfl) n_max2 (by rfl) (Z.free _ (by decide)) (by rfl) (da_cons de_int (da_cons (de_bin op_sub o2_sub (de_callB call_abs n_abs (by rfl) (Z.free _ (by decide)) (by rfl) (da_cons (de_var 2) da_nil)) (de_bin op_pow3 o2_pow3 de_int de_int)) da_nil))) (da_cons (de_bin op_add3 o2_add (de_bin op_mod o2_mod (de_callTy call_int1 n_int (by rfl) (Z.free _ (by decide)) (by rfl) (da_cons (de_var 2) da_nil)) de_int) (de_bin op_mul3 o2_mul3 de_int (de_bin op_add3 o2_add (de_var 1) de_int))) (da_cons de_int da_nil)))))))))
abbrev g_law_draw : Cfg := ⟨[0], [0], [], []⟩
def f_law_draw (ca : Nat → Addr) (cR : Addr) : SF := (fSeq (fIf (fBool (fOp2 gGt (fOp2 gIx (fOwn 0) (fC (.int 0))) (fC (.int 0)))) (fSeq (fSet g_law_draw 2 (fOp2 gMod (fApp gInt (fACons (fOp2 gIx (fOwn 0) (fC (.int 0))) fANil)) (fVar 1)))
 (fSeq (fSetIx g_law_draw 0 (fC (.int 0)) (fOp2 gDiv (fOp2 gIx (fOwn 0) (fC (.int 0))) (fVar 1)))
 (fRet g_law_draw (fVar 2)))) fNext)
 (fSeq (fSetIx g_law_draw 0 (fC (.int 2)) (fOp2 gAdd (fOp2 gIx (fOwn 0) (fC (.int 2))) (fC (.int 1))))
 (fSeq (fSet g_law_draw 3 (fOp2 gMod (fApp gInt (fACons (fOp2 gPow3 (fOp2 gAdd (fOp2 gIx (fOwn 0) (fC (.int 1))) (fOp2 gMul3 (fC (.int 15485863)) (fOp2 gIx (fOwn 0) (fC (.int 2))))) (fC (.int 3))) fANil)) (fC (.int 162259276829213363391578010288127))))
 (fSeq (fSet g_law_draw 3 (fOp2 gMod (fApp gInt (fACons (fOp2 gPow3 (fOp2 gAdd (fVar 3) (fOp2 gMul3 (fC (.int 32452843)) (fOp2 gIx (fOwn 0) (fC (.int 2))))) (fC (.int 3))) fANil)) (fC (.int 170141183460469231731687303715884105727))))
 (fRet g_law_draw (fOp2 gMod (fApp gInt (fACons (fOp2 gDiv (fVar 3) (fC (.int 1048576))) fANil)) (fVar 1)))))))
def G_law_draw (ca : Nat → Addr) (cR : Addr) : GF := runD 2 4 [0] (f_law_draw ca cR)
theorem sc_law_draw : FnScope ["pool", "many", "drawn", "mixed"] ["pool", "many"] (defScope s_law_draw) := ⟨rfl, rfl, rfl, by decide +kernel, rfl, by decide +kernel, by decide +kernel⟩
theorem ok_law_draw (Z : ZEnv K mg cR) (ET : Errs K mg ca fI nm) {f : Addr} {fd : FuncData} (F : L2.Fun K "_law_draw" "_law_draw" s_law_draw f fd)  : FnG P w K mg base (L2.CX P w) (0 + 1) f fd ["pool", "many"] (spD K false [0] (G_law_draw ca cR)) :=
  def_ok F sc_law_draw (own := [0]) (io := [0]) (hb := fun cdv A outer s H E hr => by
    have nd := sc_law_draw.nd
    have hu0 := hr.room.un
    have hu : (A.deeper (envOfC "_law_draw" (defScope s_law_draw) s.heap.objs.size f cdv)).units + 64 < cLine := by omega
    have hu1 : (A.deeper (envOfC "_law_draw" (defScope s_law_draw) s.heap.objs.size f cdv)).units + 1 < cLine := by omega
    have tk := takes_def (P := P) (w := w) (K := K) (mg := mg) (base := base) (N := ["pool", "many", "drawn", "mixed"]) (qual := "_law_draw") (scope := defScope s_law_draw) (f := f) (cdv := cdv) (A := A) (outer := outer) (s := s) (H := H) (E := E)
    have pw := passes_def (P := P) (w := w) (K := K) (mg := mg) (base := base) (N := ["pool", "many", "drawn", "mixed"]) (qual := "_law_draw") (scope := defScope s_law_draw) (f := f) (cdv := cdv) (A := A) (outer := outer) (s := s) (H := H) (E := E)
    exact (dss_cons (ds_if (dt_cmp op_gt o2_gt (de_ix (ix_any hu1) o2_ix (de_own 0) de_int (fun _ _ => rfl)) de_int rfl)
 (dss_cons (ds_set 2 (de_bin op_mod o2_mod (de_callTy call_int1 n_int (by rfl) (Z.free _ (by decide)) (by rfl) (da_cons (de_ix (ix_any hu1) o2_ix (de_own 0) de_int (fun _ _ => rfl)) da_nil)) (de_var 1)) (hN := nd))
 (dss_cons (ds_setIx 0 hu1 (de_bin op_fdivW o2_div (de_ix (ix_any hu1) o2_ix (de_own 0) de_int (fun _ _ => rfl)) (de_var 1)) de_int)
 (dss_one (ds_ret (de_var 2)))))
 dss_nil)
 (dss_cons (ds_setIx 0 hu1 (de_bin op_add3 o2_add (de_ix (ix_any hu1) o2_ix (de_own 0) de_int (fun _ _ => rfl)) de_int) de_int)
 (dss_cons (ds_set 3 (de_bin op_mod o2_mod (de_callTy call_int1 n_int (by rfl) (Z.free _ (by decide)) (by rfl) (da_cons (de_bin op_pow3 o2_pow3 (de_bin op_add3 o2_add (de_ix (ix_any hu1) o2_ix (de_own 0) de_int (fun _ _ => rfl)) (de_bin op_mul3 o2_mul3 de_int (de_ix (ix_any hu1) o2_ix (de_own 0) de_int (fun _ _ => rfl)))) de_int) da_nil)) de_int) (hN := nd))
 (dss_cons (ds_set 3 (de_bin op_mod o2_mod (de_callTy call_int1 n_int (by rfl) (Z.free _ (by decide)) (by rfl) (da_cons (de_bin op_pow3 o2_pow3 (de_bin op_add3 o2_add (de_var 3) (de_bin op_mul3 o2_mul3 de_int (de_ix (ix_any hu1) o2_ix (de_own 0) de_int (fun _ _ => rfl)))) de_int) da_nil)) de_int) (hN := nd))
 (dss_one (ds_ret (de_false (de_bin op_mod o2_mod (de_callTy call_int1 n_int (by rfl) (Z.free _ (by decide)) (by rfl) (da_cons (de_bin op_fdivW o2_div (de_var 3) de_int) da_nil)) (de_var 1))))))))))
abbrev g_law_kind : Cfg := ⟨[0, 4], [0], [], []⟩
def f_law_kind (ca : Nat → Addr) (cR : Addr) : SF := (fSeq (fSet g_law_kind 1 (fOp2 gIx (fNew g_law_kind gLstD (fACons (fC (.int 2)) (fACons (fC (.int 2)) (fACons (fC (.int 3)) (fACons (fC (.int 5)) fANil))))) (fCall false [0] (G_law_draw ca cR) (fACons (fOwn 0) (fACons (fC (.int 4)) fANil)))))
 (fSeq (fSet g_law_kind 2 (fCall false [0] (G_law_draw ca cR) (fACons (fOwn 0) (fACons (fOp2 gIx (fC (.dK (dispD [(2, 5), (3, 4), (5, 3)]))) (fVar 1)) fANil))))
 (fSeq (fSet g_law_kind 3 (fOp2 gIx (fNew g_law_kind gLstD (fACons (fC (.int 0)) (fACons (fOp2 gSub (fC (.int 0)) (fVar 2)) (fACons (fOp1 gNeg (fC (.int 1))) (fACons (fOp2 gSub (fCall false [0] (G_law_draw ca cR) (fACons (fOwn 0) (fACons (fOp2 gSub (fC (.int 17)) (fVar 2)) fANil))) (fC (.int 8))) fANil))))) (fCall false [0] (G_law_draw ca cR) (fACons (fOwn 0) (fACons (fC (.int 4)) fANil)))))
 (fSeq (fSetOwn g_law_kind 4 (fNew g_law_kind gLstD fANil))
 (fSeq (fFor [5] (fItemsA rng1 (fACons (fOp2 gAdd (fVar 2) (fC (.int 1))) fANil)) (tgName 5) (fIf (fOr (fBool (fOp2 (gIn false) (fVar 5) (fNew g_law_kind gTupD (fACons (fC (.int 0)) (fACons (fVar 2) fANil))))) (fBool (fOp2 gEqA (fCall false [0] (G_law_draw ca cR) (fACons (fOwn 0) (fACons (fC (.int 2)) fANil))) (fC (.int 0))))) (fSeq (fSet g_law_kind 6 (fCall false [0] (G_law_draw ca cR) (fACons (fOwn 0) (fACons (fOp2 gAdd (fApp gLen (fACons (fOwn 4) fANil)) (fC (.int 1))) fANil))))
 (fMeth g_law_kind 4 gInsert (fACons (fVar 6) (fACons (fNew g_law_kind gTupD (fACons (fOp2 gAdd (fC (.int 1)) (fCall false [0] (G_law_draw ca cR) (fACons (fOwn 0) (fACons (fOp2 gSub (fVar 1) (fC (.int 1))) fANil)))) (fACons (fOp2 gAdd (fVar 3) (fVar 5)) fANil))) fANil)))) fNext))
 (fRet g_law_kind (fNew g_law_kind gTupD (fACons (fVar 1) (fACons (fOwn 4) fANil)))))))))
def G_law_kind (ca : Nat → Addr) (cR : Addr) : GF := runD 1 7 [0] (f_law_kind ca cR)
theorem sc_law_kind : FnScope ["pool", "prime_here", "wide", "least_here", "terms_here", "step", "spot"] ["pool"] (defScope s_law_kind) := ⟨rfl, rfl, rfl, by decide +kernel, rfl, by decide +kernel, by decide +kernel⟩
theorem ok_law_kind (Z : ZEnv K mg cR) (ET : Errs K mg ca fI nm) {f : Addr} {fd : FuncData} (F : L2.Fun K "_law_kind" "_law_kind" s_law_kind f fd) (C_law_draw : Callee P w K mg base "_law_draw" s_law_draw ["pool", "many"] false [0] (G_law_draw ca cR) 1) : FnG P w K mg base (L2.CX P w) (3 + 1) f fd ["pool"] (spD K true [0] (G_law_kind ca cR)) :=
  def_ok F sc_law_kind (own := [0, 4]) (io := [0]) (hb := fun cdv A outer s H E hr => by
    have nd := sc_law_kind.nd
    have hu0 := hr.room.un
    have hu : (A.deeper (envOfC "_law_kind" (defScope s_law_kind) s.heap.objs.size f cdv)).units + 64 < cLine := by omega
    have hu1 : (A.deeper (envOfC "_law_kind" (defScope s_law_kind) s.heap.objs.size f cdv)).units + 1 < cLine := by omega
    have tk := takes_def (P := P) (w := w) (K := K) (mg := mg) (base := base) (N := ["pool", "prime_here", "wide", "least_here", "terms_here", "step", "spot"]) (qual := "_law_kind") (scope := defScope s_law_kind) (f := f) (cdv := cdv) (A := A) (outer := outer) (s := s) (H := H) (E := E)
    have pw := passes_def (P := P) (w := w) (K := K) (mg := mg) (base := base) (N := ["pool", "prime_here", "wide", "least_here", "terms_here", "step", "spot"]) (qual := "_law_kind") (scope := defScope s_law_kind) (f := f) (cdv := cdv) (A := A) (outer := outer) (s := s) (H := H) (E := E)
    exact (dss_cons (ds_set 1 (de_ix (ix_any hu1) o2_ix (de_lst (da_cons de_int (da_cons de_int (da_cons de_int (da_cons de_int da_nil))))) (de_call C_law_draw (hr.mono (by decide)) tk (by rfl) (da_cons (de_own 0) (da_cons de_int da_nil))) (fun _ _ => rfl)) (hN := nd))
 (dss_cons (ds_set 2 (de_call C_law_draw (hr.mono (by decide)) tk (by rfl) (da_cons (de_own 0) (da_cons (de_ix (ix_any hu1) o2_ix (de_disp [(2, 5), (3, 4), (5, 3)] (pps_cons pe_int pe_int (pps_cons pe_int pe_int (pps_cons pe_int pe_int pps_nil)))) (de_var 1) (fun _ _ => rfl)) da_nil))) (hN := nd))
 (dss_cons (ds_set 3 (de_ix (ix_any hu1) o2_ix (de_lst (da_cons de_int (da_cons (de_bin op_sub o2_sub de_int (de_var 2)) (da_cons (de_un un_neg o1_neg de_int) (da_cons (de_bin op_sub o2_sub (de_call C_law_draw (hr.mono (by decide)) tk (by rfl) (da_cons (de_own 0) (da_cons (de_bin op_sub o2_sub de_int (de_var 2)) da_nil))) de_int) da_nil))))) (de_call C_law_draw (hr.mono (by decide)) tk (by rfl) (da_cons (de_own 0) (da_cons de_int da_nil))) (fun _ _ => rfl)) (hN := nd))
 (dss_cons (ds_setOwn 4 (de_lst da_nil) (hN := nd))
 (dss_cons (ds_for [5] [5] pw rfl (di_range1 (by rfl) (Z.free _ (by decide)) (da_cons (de_bin op_add3 o2_add (de_var 2) de_int) da_nil)) (dg_name 5 (hN := nd))
 (dss_one (ds_if (DW.dt (dw_or (dt_cmp (op_in4 hu) o2_in (de_var 5) (de_tup (da_cons de_int (da_cons (de_var 2) da_nil))) rfl) (dw_or1 (dt_cmp (op_eqA hu) o2_eqA (de_call C_law_draw (hr.mono (by decide)) tk (by rfl) (da_cons (de_own 0) (da_cons de_int da_nil))) de_int rfl))))
 (dss_cons (ds_set 6 (de_call C_law_draw (hr.mono (by decide)) tk (by rfl) (da_cons (de_own 0) (da_cons (de_bin op_add3 o2_add (de_callB c_len n_len (by rfl) (Z.free _ (by decide)) (by rfl) (da_cons (de_own 4) da_nil)) de_int) da_nil))) (hN := nd))
 (dss_one (ds_meth 4 PySem.F.slot_list_insert ty_insert mt_insert m_insert (da_cons (de_var 6) (da_cons (de_tup (da_cons (de_bin op_add3 o2_add de_int (de_call C_law_draw (hr.mono (by decide)) tk (by rfl) (da_cons (de_own 0) (da_cons (de_bin op_sub o2_sub (de_var 1) de_int) da_nil)))) (da_cons (de_bin op_add3 o2_add (de_var 3) (de_var 5)) da_nil))) da_nil)))))
 dss_nil)))
 (dss_one (ds_ret (de_tup (da_cons (de_var 1) (da_cons (de_own 4) da_nil)))))))))))
abbrev g_law_made : Cfg := ⟨[], [], [], []⟩
def f_law_made (ca : Nat → Addr) (cR : Addr) : SF := (fRet g_law_made (fMake cR (G_Rule_init ca cR) (fACons (fOp2 gIx (fVar 0) (fC (.int 0))) (fACons (fApp gListOf (fACons (fOp2 gIx (fVar 0) (fC (.int 1))) fANil)) fANil))))
def G_law_made (ca : Nat → Addr) (cR : Addr) : GF := runD 1 1 [] (f_law_made ca cR)
theorem sc_law_made : FnScope ["kind"] ["kind"] (defScope s_law_made) := ⟨rfl, rfl, rfl, by decide +kernel, rfl, by decide +kernel, by decide +kernel⟩
theorem ok_law_made (Z : ZEnv K mg cR) (ET : Errs K mg ca fI nm) {f : Addr} {fd : FuncData} (F : L2.Fun K "_law_made" "_law_made" s_law_made f fd) (M_Rule_init : MakeAt P w K mg base "Rule" cR ["self", "prime", "terms"] (G_Rule_init ca cR) 4) : FnG P w K mg base (L2.CX P w) (6 + 1) f fd ["kind"] (spD K true [] (G_law_made ca cR)) :=
  def_ok F sc_law_made (own := []) (io := []) (hb := fun cdv A outer s H E hr => by
    have nd := sc_law_made.nd
    have hu0 := hr.room.un
    have hu : (A.deeper (envOfC "_law_made" (defScope s_law_made) s.heap.objs.size f cdv)).units + 64 < cLine := by omega
    have hu1 : (A.deeper (envOfC "_law_made" (defScope s_law_made) s.heap.objs.size f cdv)).units + 1 < cLine := by omega
    have tk := takes_def (P := P) (w := w) (K := K) (mg := mg) (base := base) (N := ["kind"]) (qual := "_law_made") (scope := defScope s_law_made) (f := f) (cdv := cdv) (A := A) (outer := outer) (s := s) (H := H) (E := E)
    have pw := passes_def (P := P) (w := w) (K := K) (mg := mg) (base := base) (N := ["kind"]) (qual := "_law_made") (scope := defScope s_law_made) (f := f) (cdv := cdv) (A := A) (outer := outer) (s := s) (H := H) (E := E)
    exact (dss_one (ds_ret (de_make M_Rule_init (hr.mono (by decide)) tk (by rfl) (da_cons (de_ix (ix_any hu1) o2_ix (de_var 0) de_int (fun _ _ => rfl)) (da_cons (de_callTy (c_list rfl) n_list (by rfl) (Z.free _ (by decide)) (by rfl) (da_cons (de_ix (ix_any hu1) o2_ix (de_var 0) de_int (fun _ _ => rfl)) da_nil)) da_nil))))))
abbrev g_law_row : Cfg := ⟨[0, 6], [0], [], []⟩
def f_law_row (ca : Nat → Addr) (cR : Addr) : SF := (fSeq (fSet g_law_row 4 (fOp2 gIx (fNew g_law_row gLstD (fACons (fC (.int 0)) (fACons (fOp2 gSub (fCall false [0] (G_law_draw ca cR) (fACons (fOwn 0) (fACons (fC (.int 21)) fANil))) (fC (.int 10))) (fACons (fOp2 gSub (fCall false [0] (G_law_draw ca cR) (fACons (fOwn 0) (fACons (fOp2 gAdd (fOp2 gMul3 (fC (.int 2)) (fVar 3)) (fC (.int 1))) fANil))) (fVar 3)) fANil)))) (fCall false [0] (G_law_draw ca cR) (fACons (fOwn 0) (fACons (fC (.int 3)) fANil)))))
 (fSeq (fPars g_law_row [5, 6] [(false, (fOp2 gIx (fNew g_law_row gLstD (fACons (fCall false [0] (G_law_draw ca cR) (fACons (fOwn 0) (fACons (fC (.int 9)) fANil))) (fACons (fC (.int 40)) (fACons (fCall false [0] (G_law_draw ca cR) (fACons (fOwn 0) (fACons (fC (.int 41)) fANil))) fANil)))) (fCall false [0] (G_law_draw ca cR) (fACons (fOwn 0) (fACons (fC (.int 3)) fANil))))), (true, (fC (.dK [])))])
 (fSeq (fSetIx g_law_row 6 (fVar 4) (fOp2 gAdd (fC (.int 1)) (fCall false [0] (G_law_draw ca cR) (fACons (fOwn 0) (fACons (fOp2 gSub (fOp2 gIx (fVar 1) (fC (.int 0))) (fC (.int 1))) fANil)))))
 (fSeq (fFor [7, 8] (fItemsA rng1 (fACons (fCall false [0] (G_law_draw ca cR) (fACons (fOwn 0) (fACons (fVar 2) fANil))) fANil)) (tgName 7) (fSeq (fSet g_law_row 8 (fOp2 gAdd (fVar 4) (fOp2 gIx (fNew g_law_row gLstD (fACons (fVar 5) (fACons (fCall false [0] (G_law_draw ca cR) (fACons (fOwn 0) (fACons (fOp2 gAdd (fVar 5) (fC (.int 1))) fANil))) fANil))) (fCall false [0] (G_law_draw ca cR) (fACons (fOwn 0) (fACons (fC (.int 2)) fANil))))))
 (fSetIx g_law_row 6 (fVar 8) (fOp2 gAdd (fC (.int 1)) (fCall false [0] (G_law_draw ca cR) (fACons (fOwn 0) (fACons (fOp2 gSub (fOp2 gIx (fVar 1) (fC (.int 0))) (fC (.int 1))) fANil)))))))
 (fRet g_law_row (fOp1 gSortIt (fOwn 6)))))))
def G_law_row (ca : Nat → Addr) (cR : Addr) : GF := runD 4 9 [0] (f_law_row ca cR)
theorem sc_law_row : FnScope ["pool", "kind", "many", "far", "begin", "wide", "found", "turn", "spot"] ["pool", "kind", "many", "far"] (defScope s_law_row) := ⟨rfl, rfl, rfl, by decide +kernel, rfl, by decide +kernel, by decide +kernel⟩
theorem ok_law_row (Z : ZEnv K mg cR) (ET : Errs K mg ca fI nm) {f : Addr} {fd : FuncData} (F : L2.Fun K "_law_row" "_law_row" s_law_row f fd) (C_law_draw : Callee P w K mg base "_law_draw" s_law_draw ["pool", "many"] false [0] (G_law_draw ca cR) 1) : FnG P w K mg base (L2.CX P w) (3 + 1) f fd ["pool", "kind", "many", "far"] (spD K true [0] (G_law_row ca cR)) :=
  def_ok F sc_law_row (own := [0, 6]) (io := [0]) (hb := fun cdv A outer s H E hr => by
    have nd := sc_law_row.nd
    have hu0 := hr.room.un
    have hu : (A.deeper (envOfC "_law_row" (defScope s_law_row) s.heap.objs.size f cdv)).units + 64 < cLine := by omega
    have hu1 : (A.deeper (envOfC "_law_row" (defScope s_law_row) s.heap.objs.size f cdv)).units + 1 < cLine := by omega
    have tk := takes_def (P := P) (w := w) (K := K) (mg := mg) (base := base) (N := ["pool", "kind", "many", "far", "begin", "wide", "found", "turn", "spot"]) (qual := "_law_row") (scope := defScope s_law_row) (f := f) (cdv := cdv) (A := A) (outer := outer) (s := s) (H := H) (E := E)
    have pw := passes_def (P := P) (w := w) (K := K) (mg := mg) (base := base) (N := ["pool", "kind", "many", "far", "begin", "wide", "found", "turn", "spot"]) (qual := "_law_row") (scope := defScope s_law_row) (f := f) (cdv := cdv) (A := A) (outer := outer) (s := s) (H := H) (E := E)
    exact (dss_cons (ds_set 4 (de_ix (ix_any hu1) o2_ix (de_lst (da_cons de_int (da_cons (de_bin op_sub o2_sub (de_call C_law_draw (hr.mono (by decide)) tk (by rfl) (da_cons (de_own 0) (da_cons de_int da_nil))) de_int) (da_cons (de_bin op_sub o2_sub (de_call C_law_draw (hr.mono (by decide)) tk (by rfl) (da_cons (de_own 0) (da_cons (de_bin op_add3 o2_add (de_bin op_mul3 o2_mul3 de_int (de_var 3)) de_int) da_nil))) (de_var 3)) da_nil)))) (de_call C_law_draw (hr.mono (by decide)) tk (by rfl) (da_cons (de_own 0) (da_cons de_int da_nil))) (fun _ _ => rfl)) (hN := nd))
 (dss_cons (ds_par2 5 6 false true rfl nd (de_ix (ix_any hu1) o2_ix (de_lst (da_cons (de_call C_law_draw (hr.mono (by decide)) tk (by rfl) (da_cons (de_own 0) (da_cons de_int da_nil))) (da_cons de_int (da_cons (de_call C_law_draw (hr.mono (by decide)) tk (by rfl) (da_cons (de_own 0) (da_cons de_int da_nil))) da_nil)))) (de_call C_law_draw (hr.mono (by decide)) tk (by rfl) (da_cons (de_own 0) (da_cons de_int da_nil))) (fun _ _ => rfl)) de_dnew)
 (dss_cons (ds_setIx 6 hu1 (de_bin op_add3 o2_add de_int (de_call C_law_draw (hr.mono (by decide)) tk (by rfl) (da_cons (de_own 0) (da_cons (de_bin op_sub o2_sub (de_ix (ix_any hu1) o2_ix (de_var 1) de_int (fun _ _ => rfl)) de_int) da_nil)))) (de_var 4))
 (dss_cons (ds_for [7, 8] [7] pw rfl (di_range1 (by rfl) (Z.free _ (by decide)) (da_cons (de_call C_law_draw (hr.mono (by decide)) tk (by rfl) (da_cons (de_own 0) (da_cons (de_var 2) da_nil))) da_nil)) (dg_name 7 (hN := nd))
 (dss_cons (ds_set 8 (de_bin op_add3 o2_add (de_var 4) (de_ix (ix_any hu1) o2_ix (de_lst (da_cons (de_var 5) (da_cons (de_call C_law_draw (hr.mono (by decide)) tk (by rfl) (da_cons (de_own 0) (da_cons (de_bin op_add3 o2_add (de_var 5) de_int) da_nil))) da_nil))) (de_call C_law_draw (hr.mono (by decide)) tk (by rfl) (da_cons (de_own 0) (da_cons de_int da_nil))) (fun _ _ => rfl))) (hN := nd))
 (dss_one (ds_setIx 6 hu1 (de_bin op_add3 o2_add de_int (de_call C_law_draw (hr.mono (by decide)) tk (by rfl) (da_cons (de_own 0) (da_cons (de_bin op_sub o2_sub (de_ix (ix_any hu1) o2_ix (de_var 1) de_int (fun _ _ => rfl)) de_int) da_nil)))) (de_var 8)))))
 (dss_one (ds_ret (de_sortIt rfl (by rfl) (Z.free _ (by decide)) (de_own 6)))))))))
abbrev g_law_step : Cfg := ⟨[2], [], [], []⟩
def f_law_step (ca : Nat → Addr) (cR : Addr) : SF := (fSeq (fSetOwn g_law_step 2 (fC (.dK [])))
 (fSeq (fForK 1 [] (tgName 3) (fFor [] (fItems lstItems (fOp2 gIx (fVar 0) (fC (.int 1)))) (tgTup [(tgName 4), (tgName 5)]) (fSetIx g_law_step 2 (fOp2 gAdd (fVar 3) (fVar 5)) (fOp2 gMod (fApp gInt (fACons (fOp2 gAdd (fGet 0 (fOwn 2) (fOp2 gAdd (fVar 3) (fVar 5))) (fOp2 gMul3 (fVar 4) (fOp2 gIx (fVar 1) (fVar 3)))) fANil)) (fOp2 gIx (fVar 0) (fC (.int 0)))))))
 (fRet g_law_step (fApp gDict2 (fACons (fBorD 2 (fComp [3] (fItems keyItems (fVar 2)) (tgName 3) (fBool (fOp2 gNeA (fOp2 gIx (fVar 2) (fVar 3)) (fC (.int 0)))) (fNew g_law_step gTupD (fACons (fVar 3) (fACons (fOp2 gIx (fVar 2) (fVar 3)) fANil))))) fANil)))))
def G_law_step (ca : Nat → Addr) (cR : Addr) : GF := runD 2 6 [] (f_law_step ca cR)
theorem sc_law_step : FnScope ["kind", "there", "found", "spot", "factor", "deep"] ["kind", "there"] (defScope s_law_step) := ⟨rfl, rfl, rfl, by decide +kernel, rfl, by decide +kernel, by decide +kernel⟩
theorem ok_law_step (Z : ZEnv K mg cR) (ET : Errs K mg ca fI nm) {f : Addr} {fd : FuncData} (F : L2.Fun K "_law_step" "_law_step" s_law_step f fd)  : FnG P w K mg base (L2.CX P w) (0 + 1) f fd ["kind", "there"] (spD K true [] (G_law_step ca cR)) :=
  def_ok F sc_law_step (own := [2]) (io := []) (hb := fun cdv A outer s H E hr => by
    have nd := sc_law_step.nd
    have hu0 := hr.room.un
    have hu : (A.deeper (envOfC "_law_step" (defScope s_law_step) s.heap.objs.size f cdv)).units + 64 < cLine := by omega
    have hu1 : (A.deeper (envOfC "_law_step" (defScope s_law_step) s.heap.objs.size f cdv)).units + 1 < cLine := by omega
    have tk := takes_def (P := P) (w := w) (K := K) (mg := mg) (base := base) (N := ["kind", "there", "found", "spot", "factor", "deep"]) (qual := "_law_step") (scope := defScope s_law_step) (f := f) (cdv := cdv) (A := A) (outer := outer) (s := s) (H := H) (E := E)
    have pw := passes_def (P := P) (w := w) (K := K) (mg := mg) (base := base) (N := ["kind", "there", "found", "spot", "factor", "deep"]) (qual := "_law_step") (scope := defScope s_law_step) (f := f) (cdv := cdv) (A := A) (outer := outer) (s := s) (H := H) (E := E)
    exact (dss_cons (ds_setOwn 2 de_dnew (hN := nd))
 (dss_cons (ds_forK 1 [] [3] pw rfl (dg_name 3 (hN := nd))
 (dss_one (ds_for [] [4, 5] pw rfl (di_list (de_ix (ix_any hu1) o2_ix (de_var 0) de_int (fun _ _ => rfl))) (dg_tup rfl (dgs_cons (dg_name 4 (hN := nd)) (dgs_cons (dg_name 5 (hN := nd)) dgs_nil)))
 (dss_one (ds_setIx 2 hu1 (de_bin op_mod o2_mod (de_callTy call_int1 n_int (by rfl) (Z.free _ (by decide)) (by rfl) (da_cons (de_bin op_add3 o2_add (de_get hu1 (de_own 2) (de_bin op_add3 o2_add (de_var 3) (de_var 5))) (de_bin op_mul3 o2_mul3 (de_var 4) (de_ix (ix_any hu1) o2_ix (de_var 1) (de_var 3) (fun _ _ => rfl)))) da_nil)) (de_ix (ix_any hu1) o2_ix (de_var 0) de_int (fun _ _ => rfl))) (de_bin op_add3 o2_add (de_var 3) (de_var 5)))))))
 (dss_one (ds_ret (de_callTy (c_dict2 rfl) n_dict2 (by rfl) (Z.free _ (by decide)) (by rfl) (da_cons (de_borK 2 (fun _ => (pk_comp 2 [("spot", 3)] rfl nd (blk_of (by rfl))  (fun _ _ _ _ _ => (dg_name 3 (hN := nd))) (fun _ _ _ _ _ => (dts_one (dt_cmp (op_neA hu) o2_neA (de_ix (ix_any hu1) o2_ix (de_var 2) (de_var 3) (fun _ _ => rfl)) de_int rfl))) (fun _ _ _ _ _ => (de_tupG (da_cons (de_var 3) (da_cons (de_ix (ix_any hu1) o2_ix (de_var 2) (de_var 3) (fun _ _ => rfl)) da_nil))))))) da_nil)))))))
abbrev g_law_walk : Cfg := ⟨[3], [], [], []⟩
def f_law_walk (ca : Nat → Addr) (cR : Addr) : SF := (fSeq (fSetOwn g_law_walk 3 (fNew g_law_walk gLstD (fACons (fApp gDict2 (fACons (fVar 1) fANil)) fANil)))
 (fSeq (fFor [4] (fItemsA rng1 (fACons (fVar 2) fANil)) (tgName 4) (fMeth g_law_walk 3 gAppend (fACons (fCall true [] (G_law_step ca cR) (fACons (fVar 0) (fACons (fOp2 gIx (fOwn 3) (fOp1 gNeg (fC (.int 1)))) fANil))) fANil)))
 (fRet g_law_walk (fOwn 3))))
def G_law_walk (ca : Nat → Addr) (cR : Addr) : GF := runD 3 5 [] (f_law_walk ca cR)
theorem sc_law_walk : FnScope ["kind", "begin_row", "many", "found", "turn"] ["kind", "begin_row", "many"] (defScope s_law_walk) := ⟨rfl, rfl, rfl, by decide +kernel, rfl, by decide +kernel, by decide +kernel⟩
theorem ok_law_walk (Z : ZEnv K mg cR) (ET : Errs K mg ca fI nm) {f : Addr} {fd : FuncData} (F : L2.Fun K "_law_walk" "_law_walk" s_law_walk f fd) (C_law_step : Callee P w K mg base "_law_step" s_law_step ["kind", "there"] true [] (G_law_step ca cR) 1) : FnG P w K mg base (L2.CX P w) (3 + 1) f fd ["kind", "begin_row", "many"] (spD K true [] (G_law_walk ca cR)) :=
  def_ok F sc_law_walk (own := [3]) (io := []) (hb := fun cdv A outer s H E hr => by
    have nd := sc_law_walk.nd
    have hu0 := hr.room.un
    have hu : (A.deeper (envOfC "_law_walk" (defScope s_law_walk) s.heap.objs.size f cdv)).units + 64 < cLine := by omega
    have hu1 : (A.deeper (envOfC "_law_walk" (defScope s_law_walk) s.heap.objs.size f cdv)).units + 1 < cLine := by omega
    have tk := takes_def (P := P) (w := w) (K := K) (mg := mg) (base := base) (N := ["kind", "begin_row", "many", "found", "turn"]) (qual := "_law_walk") (scope := defScope s_law_walk) (f := f) (cdv := cdv) (A := A) (outer := outer) (s := s) (H := H) (E := E)
    have pw := passes_def (P := P) (w := w) (K := K) (mg := mg) (base := base) (N := ["kind", "begin_row", "many", "found", "turn"]) (qual := "_law_walk") (scope := defScope s_law_walk) (f := f) (cdv := cdv) (A := A) (outer := outer) (s := s) (H := H) (E := E)
    exact (dss_cons (ds_setOwn 3 (de_lst (da_cons (de_callTy (c_dict2 rfl) n_dict2 (by rfl) (Z.free _ (by decide)) (by rfl) (da_cons (de_var 1) da_nil)) da_nil)) (hN := nd))
 (dss_cons (ds_for [4] [4] pw rfl (di_range1 (by rfl) (Z.free _ (by decide)) (da_cons (de_var 2) da_nil)) (dg_name 4 (hN := nd))
 (dss_one (ds_meth 3 PySem.F.slot_list_append ty_append mt_append m_append (da_cons (de_call C_law_step (hr.mono (by decide)) tk (by rfl) (da_cons (de_var 0) (da_cons (de_ix (ix_any hu1) o2_ix (de_own 3) (de_un un_neg o1_neg de_int) (fun _ _ => rfl)) da_nil))) da_nil))))
 (dss_one (ds_ret (de_own 3))))))
abbrev g_law_turned : Cfg := ⟨[], [], [], []⟩
def f_law_turned (ca : Nat → Addr) (cR : Addr) : SF := (fRet g_law_turned (fApp gSorted (fACons (fLck 0 (fComp [1] (fItems keyItems (fVar 0)) (tgName 1) fYes (fNew g_law_turned gTupD (fACons (fOp2 gSub (fC (.int 0)) (fVar 1)) (fACons (fOp2 gIx (fVar 0) (fVar 1)) fANil))))) fANil)))
def G_law_turned (ca : Nat → Addr) (cR : Addr) : GF := runD 1 2 [] (f_law_turned ca cR)
theorem sc_law_turned : FnScope ["there", "spot"] ["there"] (defScope s_law_turned) := ⟨rfl, rfl, rfl, by decide +kernel, rfl, by decide +kernel, by decide +kernel⟩
theorem ok_law_turned (Z : ZEnv K mg cR) (ET : Errs K mg ca fI nm) {f : Addr} {fd : FuncData} (F : L2.Fun K "_law_turned" "_law_turned" s_law_turned f fd)  : FnG P w K mg base (L2.CX P w) (0 + 1) f fd ["there"] (spD K true [] (G_law_turned ca cR)) :=
  def_ok F sc_law_turned (own := []) (io := []) (hb := fun cdv A outer s H E hr => by
    have nd := sc_law_turned.nd
    have hu0 := hr.room.un
    have hu : (A.deeper (envOfC "_law_turned" (defScope s_law_turned) s.heap.objs.size f cdv)).units + 64 < cLine := by omega
    have hu1 : (A.deeper (envOfC "_law_turned" (defScope s_law_turned) s.heap.objs.size f cdv)).units + 1 < cLine := by omega
    have tk := takes_def (P := P) (w := w) (K := K) (mg := mg) (base := base) (N := ["there", "spot"]) (qual := "_law_turned") (scope := defScope s_law_turned) (f := f) (cdv := cdv) (A := A) (outer := outer) (s := s) (H := H) (E := E)
    have pw := passes_def (P := P) (w := w) (K := K) (mg := mg) (base := base) (N := ["there", "spot"]) (qual := "_law_turned") (scope := defScope s_law_turned) (f := f) (cdv := cdv) (A := A) (outer := outer) (s := s) (H := H) (E := E)
    exact (dss_one (ds_ret (de_callB (c_sorted rfl) n_sorted (by rfl) (Z.free _ (by decide)) (by rfl) (da_cons (de_lck 0 (pk_comp 0 [("spot", 1)] rfl nd (blk_of (by rfl))  (fun _ _ _ _ _ => (dg_name 1 (hN := nd))) (fun _ _ _ _ _ => dts_nil) (fun _ _ _ _ _ => (de_tup (da_cons (de_bin op_sub o2_sub de_int (de_var 1)) (da_cons (de_ix (ix_any hu1) o2_ix (de_var 0) (de_var 1) (fun _ _ => rfl)) da_nil)))))) da_nil)))))
abbrev g_law_right : Cfg := ⟨[0, 11], [0], [], []⟩
def f_law_right (ca : Nat → Addr) (cR : Addr) : SF := (fSeq (fSet g_law_right 1 (fCall true [0] (G_law_kind ca cR) (fACons (fOwn 0) fANil)))
 (fSeq (fPars g_law_right [2, 3] [(false, (fCall true [] (G_law_made ca cR) (fACons (fVar 1) fANil))), (false, (fCall true [0] (G_law_row ca cR) (fACons (fOwn 0) (fACons (fVar 1) (fACons (fC (.int 12)) (fACons (fOp2 gPow3 (fC (.int 10)) (fC (.int 29))) fANil))))))])
 (fSeq (fSet g_law_right 3 (fComp [4] (fItems lstItems (fVar 3)) (tgName 4) (fBool (fOp2 gLe (fOp2 gSub (fOp2 gIx (fVar 4) (fC (.int 0))) (fOp2 gIx (fOp2 gIx (fVar 3) (fC (.int 0))) (fC (.int 0)))) (fC (.int 16)))) (fVar 4)))
 (fSeq (fPars g_law_right [5, 6, 7] [(false, (fApp gListOf (fACons (fVar 3) fANil))), (false, (fMethD cR "mirrored" true [] (G_Rule_mirrored ca cR) (fVar 2) fANil)), (false, (fApp gListOf (fACons (fVar 3) fANil)))])
 (fSeq (fIf (fOr (fBool (fOp2 gNeA (fProp cR true (G_Rule_terms ca cR) (fVar 6)) (fComp [8, 9] (fItems lstItems (fOp1 gRev (fProp cR true (G_Rule_terms ca cR) (fVar 2)))) (tgTup [(tgName 8), (tgName 9)]) fYes (fNew g_law_right gTupD (fACons (fVar 8) (fACons (fOp2 gSub (fC (.int 0)) (fVar 9)) fANil)))))) (fNot (fBool (fEqO false cR (G_Rule_eq ca cR) (fMethD cR "mirrored" true [] (G_Rule_mirrored ca cR) (fVar 6) fANil) (fVar 2))))) (fRet g_law_right (fC (.bl false))) fNext)
 (fSeq (fFor [10, 11] (fItems lstItems (fCall true [] (G_law_walk ca cR) (fACons (fVar 1) (fACons (fVar 3) (fACons (fC (.int 6)) fANil))))) (tgName 10) (fSeq (fIf (fBool (fOp2 gNeA (fApp gRepr (fACons (fVar 7) fANil)) (fApp gRepr (fACons (fOp1 gSortIt (fVar 10)) fANil)))) (fRet g_law_right (fC (.bl false))) fNext)
 (fSeq (fSetOwn g_law_right 11 (fIfE (fBool (fOp2 gEqA (fCall false [0] (G_law_draw ca cR) (fACons (fOwn 0) (fACons (fC (.int 2)) fANil))) (fC (.int 0)))) (fMethK cR "next_row" true [] (G_Rule_next_row ca cR) 1 perId (fVar 2) (fACons (fVar 7) fANil)) (fMethD cR "next_row" true [] (G_Rule_next_row ca cR) (fVar 2) (fACons (fVar 7) fANil))))
 (fSeq (fIf (fBool (fOp2 gNeA (fMethD cR "next_row" true [] (G_Rule_next_row ca cR) (fVar 6) (fACons (fCall true [] (G_law_turned ca cR) (fACons (fVar 10) fANil)) fANil)) (fCall true [] (G_law_turned ca cR) (fACons (fApp gDict2 (fACons (fOwn 11) fANil)) fANil)))) (fRet g_law_right (fC (.bl false))) fNext)
 (fSeq (fSet g_law_right 7 (fApp gListOf (fACons (fOwn 11) fANil)))
 (fMeth g_law_right 11 gAppend (fACons (fNew g_law_right gTupD (fACons (fC (.int 0)) (fACons (fC (.int 1)) fANil))) fANil)))))))
 (fRet g_law_right (fAndE (fOp2 gEqA (fVar 3) (fVar 5)) (fAndE (fOp2 gEqA (fMethD cR "next_row" true [] (G_Rule_next_row ca cR) (fVar 2) (fACons (fNew g_law_right gLstD fANil) fANil)) (fNew g_law_right gLstD fANil)) (fOp2 gEqA (fProp cR false (G_Rule_prime ca cR) (fVar 2)) (fProp cR false (G_Rule_prime ca cR) (fVar 6))))))))))))
def G_law_right (ca : Nat → Addr) (cR : Addr) : GF := runD 1 12 [0] (f_law_right ca cR)
theorem sc_law_right : FnScope ["pool", "kind", "made", "begin_row", "one", "kept", "back", "line", "factor", "deep", "there", "told"] ["pool"] (defScope s_law_right) := ⟨rfl, rfl, rfl, by decide +kernel, rfl, by decide +kernel, by decide +kernel⟩
theorem ok_law_right (Z : ZEnv K mg cR) (ET : Errs K mg ca fI nm) {f : Addr} {fd : FuncData} (F : L2.Fun K "_law_right" "_law_right" s_law_right f fd) (O_Rule : OwnEq P w K mg base cR (G_Rule_eq ca cR) 1) (T_Rule_mirrored : MethAt P w K mg base cR "mirrored" ["self"] true [] (G_Rule_mirrored ca cR) 7) (K_Rule_next_row : MethKwAt P w K mg base cR "next_row" ["self", "row"] ["row"] perId true [] (G_Rule_next_row ca cR) 4) (T_Rule_next_row : MethAt P w K mg base cR "next_row" ["self", "row"] true [] (G_Rule_next_row ca cR) 4) (P_Rule_prime : PropAt P w K mg base cR "prime" false (G_Rule_prime ca cR) 1) (P_Rule_terms : PropAt P w K mg base cR "terms" true (G_Rule_terms ca cR) 1) (C_law_draw : Callee P w K mg base "_law_draw" s_law_draw ["pool", "many"] false [0] (G_law_draw ca cR) 1) (C_law_kind : Callee P w K mg base "_law_kind" s_law_kind ["pool"] true [0] (G_law_kind ca cR) 4) (C_law_made : Callee P w K mg base "_law_made" s_law_made ["kind"] true [] (G_law_made ca cR) 7) (C_law_row : Callee P w K mg base "_law_row" s_law_row ["pool", "kind", "many", "far"] true [0] (G_law_row ca cR) 4) (C_law_turned : Callee P w K mg base "_law_turned" s_law_turned ["there"] true [] (G_law_turned ca cR) 1) (C_law_walk : Callee P w K mg base "_law_walk" s_law_walk ["kind", "begin_row", "many"] true [] (G_law_walk ca cR) 4) : FnG P w K mg base (L2.CX P w) (9 + 1) f fd ["pool"] (spD K true [0] (G_law_right ca cR)) :=
  def_ok F sc_law_right (own := [0, 11]) (io := [0]) (hb := fun cdv A outer s H E hr => by
    have nd := sc_law_right.nd
    have hu0 := hr.room.un
    have hu : (A.deeper (envOfC "_law_right" (defScope s_law_right) s.heap.objs.size f cdv)).units + 64 < cLine := by omega
    have hu1 : (A.deeper (envOfC "_law_right" (defScope s_law_right) s.heap.objs.size f cdv)).units + 1 < cLine := by omega
    have tk := takes_def (P := P) (w := w) (K := K) (mg := mg) (base := base) (N := ["pool", "kind", "made", "begin_row", "one", "kept", "back", "line", "factor", "deep", "there", "told"]) (qual := "_law_right") (scope := defScope s_law_right) (f := f) (cdv := cdv) (A := A) (outer := outer) (s := s) (H := H) (E := E)
    have pw := passes_def (P := P) (w := w) (K := K) (mg := mg) (base := base) (N := ["pool", "kind", "made", "begin_row", "one", "kept", "back", "line", "factor", "deep", "there", "told"]) (qual := "_law_right") (scope := defScope s_law_right) (f := f) (cdv := cdv) (A := A) (outer := outer) (s := s) (H := H) (E := E)
    exact (dss_cons (ds_set 1 (de_call C_law_kind (hr.mono (by decide)) tk (by rfl) (da_cons (de_own 0) da_nil)) (hN := nd))
 (dss_cons (ds_parT2 2 3 false false rfl nd (de_call C_law_made (hr.mono (by decide)) tk (by rfl) (da_cons (de_var 1) da_nil)) (de_call C_law_row (hr.mono (by decide)) tk (by rfl) (da_cons (de_own 0) (da_cons (de_var 1) (da_cons de_int (da_cons (de_bin op_pow3 o2_pow3 de_int de_int) da_nil))))))
 (dss_cons (ds_set 3 (de_compN [("one", 4)] rfl nd (blk_of (by rfl)) ((di_list (de_var 3))) (fun _ _ _ _ _ => (dg_name 4 (hN := nd))) (fun _ _ _ _ _ => (dts_one (dt_cmp op_le o2_le (de_bin op_sub o2_sub (de_ix (ix_any hu1) o2_ix (de_var 4) de_int (fun _ _ => rfl)) (de_ix (ix_any hu1) o2_ix (de_ix (ix_any hu1) o2_ix (de_var 3) de_int (fun _ _ => rfl)) de_int (fun _ _ => rfl))) de_int rfl))) (fun _ _ _ _ _ => (de_var 4))) (hN := nd))
 (dss_cons (ds_par3 5 6 7 false false false rfl nd (de_callTy (c_list rfl) n_list (by rfl) (Z.free _ (by decide)) (by rfl) (da_cons (de_var 3) da_nil)) (de_methN T_Rule_mirrored (hr.mono (by decide)) tk (de_var 2)) (de_callTy (c_list rfl) n_list (by rfl) (Z.free _ (by decide)) (by rfl) (da_cons (de_var 3) da_nil)))
 (dss_cons (ds_if (DW.dt (dw_or (dt_cmp (op_neA hu) o2_neA (de_prop P_Rule_terms (hr.mono (by decide)) passes_none (de_var 6)) (de_compN [("factor", 8), ("deep", 9)] rfl nd (blk_of (by rfl)) ((di_list (de_rev (de_prop P_Rule_terms (hr.mono (by decide)) passes_none (de_var 2))))) (fun _ _ _ _ _ => (dg_tup rfl (dgs_cons (dg_name 8 (hN := nd)) (dgs_cons (dg_name 9 (hN := nd)) dgs_nil)))) (fun _ _ _ _ _ => dts_nil) (fun _ _ _ _ _ => (de_tup (da_cons (de_var 8) (da_cons (de_bin op_sub o2_sub de_int (de_var 9)) da_nil))))) rfl) (dw_or1 (dt_not (dt_eqO O_Rule (hr.mono (by decide)) (de_methN T_Rule_mirrored (hr.mono (by decide)) tk (de_var 6)) (de_var 2))))))
 (dss_one (ds_ret de_bl))
 dss_nil)
 (dss_cons (ds_for [10, 11] [10] pw rfl (di_list (de_call C_law_walk (hr.mono (by decide)) tk (by rfl) (da_cons (de_var 1) (da_cons (de_var 3) (da_cons de_int da_nil))))) (dg_name 10 (hN := nd))
 (dss_cons (ds_if (dt_cmp (op_neA hu) o2_neA (de_callB (call_reprD hr.gd hu) n_repr (by rfl) (Z.free _ (by decide)) (by rfl) (da_cons (de_var 7) da_nil)) (de_callB (call_reprD hr.gd hu) n_repr (by rfl) (Z.free _ (by decide)) (by rfl) (da_cons (de_sortIt rfl (by rfl) (Z.free _ (by decide)) (de_var 10)) da_nil)) rfl)
 (dss_one (ds_ret de_bl))
 dss_nil)
 (dss_cons (ds_setOwn 11 (de_if (dt_cmp (op_eqA hu) o2_eqA (de_call C_law_draw (hr.mono (by decide)) tk (by rfl) (da_cons (de_own 0) (da_cons de_int da_nil))) de_int rfl) (de_methKw K_Rule_next_row (hr.mono (by decide)) tk (de_var 2) (dk_cons (de_var 7) dk_nil)) (de_meth T_Rule_next_row (hr.mono (by decide)) tk (de_var 2) (da_cons (de_var 7) da_nil))) (hN := nd))
 (dss_cons (ds_if (dt_cmp (op_neA hu) o2_neA (de_meth T_Rule_next_row (hr.mono (by decide)) tk (de_var 6) (da_cons (de_call C_law_turned (hr.mono (by decide)) tk (by rfl) (da_cons (de_var 10) da_nil)) da_nil)) (de_call C_law_turned (hr.mono (by decide)) tk (by rfl) (da_cons (de_callTy (c_dict2 rfl) n_dict2 (by rfl) (Z.free _ (by decide)) (by rfl) (da_cons (de_own 11) da_nil)) da_nil)) rfl)
 (dss_one (ds_ret de_bl))
 dss_nil)
 (dss_cons (ds_set 7 (de_callTy (c_list rfl) n_list (by rfl) (Z.free _ (by decide)) (by rfl) (da_cons (de_own 11) da_nil)) (hN := nd))
 (dss_one (ds_meth 11 PySem.F.slot_list_append ty_append mt_append m_append (da_cons (de_tup (da_cons de_int (da_cons de_int da_nil))) da_nil))))))))
 (dss_one (ds_ret (de_and (de_cmp (op_eqA hu) o2_eqA (de_var 3) (de_var 5) rfl) (de_and (de_cmp (op_eqA hu) o2_eqA (de_meth T_Rule_next_row (hr.mono (by decide)) tk (de_var 2) (da_cons (de_lst da_nil) da_nil)) (de_lst da_nil) rfl) (de_one (de_cmp (op_eqA hu) o2_eqA (de_prop P_Rule_prime (hr.mono (by decide)) passes_none (de_var 2)) (de_prop P_Rule_prime (hr.mono (by decide)) passes_none (de_var 6)) rfl)))))))))))))
abbrev g_law : Cfg := ⟨[2], [], [], []⟩
def f_law (ca : Nat → Addr) (cR : Addr) : SF := (fSeq (fFor [1, 2, 3] (fItemsA rng1 (fACons (fApp gMax2 (fACons (fC (.int 1)) (fACons (fApp gMin2 (fACons (fC (.int 6)) (fACons (fApp gLen (fACons (fVar 0) fANil)) fANil))) fANil))) fANil)) (tgName 1) (fSeq (fSetOwn g_law 2 (fCall true [] (G_law_pool ca cR) (fACons (fVar 0) (fACons (fVar 1) fANil))))
 (fFor [3] (fItemsA rng1 (fACons (fC (.int 5)) fANil)) (tgName 3) (fIf (fNot (fTruth (fCall true [0] (G_law_right ca cR) (fACons (fOwn 2) fANil)))) (fRet g_law (fC (.bl false))) fNext))))
 (fRet g_law (fC (.bl true))))
def G_law (ca : Nat → Addr) (cR : Addr) : GF := runD 1 4 [] (f_law ca cR)
theorem sc_law : FnScope ["script", "spot", "pool", "turn"] ["script"] (defScope s_law) := ⟨rfl, rfl, rfl, by decide +kernel, rfl, by decide +kernel, by decide +kernel⟩
theorem ok_law (Z : ZEnv K mg cR) (ET : Errs K mg ca fI nm) {f : Addr} {fd : FuncData} (F : L2.Fun K "law" "law" s_law f fd) (C_law_pool : Callee P w K mg base "_law_pool" s_law_pool ["script", "spot"] true [] (G_law_pool ca cR) 1) (C_law_right : Callee P w K mg base "_law_right" s_law_right ["pool"] true [0] (G_law_right ca cR) 10) : FnG P w K mg base (L2.CX P w) (12 + 1) f fd ["script"] (spD K true [] (G_law ca cR)) :=
  def_ok F sc_law (own := [2]) (io := []) (hb := fun cdv A outer s H E hr => by
    have nd := sc_law.nd
    have hu0 := hr.room.un
    have hu : (A.deeper (envOfC "law" (defScope s_law) s.heap.objs.size f cdv)).units + 64 < cLine := by omega
    have hu1 : (A.deeper (envOfC "law" (defScope s_law) s.heap.objs.size f cdv)).units + 1 < cLine := by omega
    have tk := takes_def (P := P) (w := w) (K := K) (mg := mg) (base := base) (N := ["script", "spot", "pool", "turn"]) (qual := "law") (scope := defScope s_law) (f := f) (cdv := cdv) (A := A) (outer := outer) (s := s) (H := H) (E := E)
    have pw := passes_def (P := P) (w := w) (K := K) (mg := mg) (base := base) (N := ["script", "spot", "pool", "turn"]) (qual := "law") (scope := defScope s_law) (f := f) (cdv := cdv) (A := A) (outer := outer) (s := s) (H := H) (E := E)
    exact (dss_cons (ds_for [1, 2, 3] [1] pw rfl (di_range1 (by rfl) (Z.free _ (by decide)) (da_cons (de_callB (call_max2 rfl) n_max2 (by rfl) (Z.free _ (by decide)) (by rfl) (da_cons de_int (da_cons (de_callB (call_min2 rfl) n_min2 (by rfl) (Z.free _ (by decide)) (by rfl) (da_cons de_int (da_cons (de_callB c_len n_len (by rfl) (Z.free _ (by decide)) (by rfl) (da_cons (de_var 0) da_nil)) da_nil))) da_nil))) da_nil)) (dg_name 1 (hN := nd))
 (dss_cons (ds_setOwn 2 (de_call C_law_pool (hr.mono (by decide)) tk (by rfl) (da_cons (de_var 0) (da_cons (de_var 1) da_nil))) (hN := nd))
 (dss_one (ds_for [3] [3] pw rfl (di_range1 (by rfl) (Z.free _ (by decide)) (da_cons de_int da_nil)) (dg_name 3 (hN := nd))
 (dss_one (ds_if (dt_not (dt_truth (de_call C_law_right (hr.mono (by decide)) tk (by rfl) (da_cons (de_own 2) da_nil))))
 (dss_one (ds_ret de_bl))
 dss_nil))))))
 (dss_one (ds_ret de_bl))))
end
end K04
/-! D04 -/
set_option linter.all false
set_option maxRecDepth 100000
set_option maxHeartbeats 0
local macro_rules | `(tactic| walk_at "gn") => `(tactic| ((try simp only [GR.putIo, GR.setsD, GR.wipeE, List.set_cons_zero, List.set_cons_succ, List.getElem?_cons_zero, List.getElem?_cons_succ, List.map_cons, List.map_nil, List.replicate, List.append_eq, List.cons_append, List.nil_append, List.length_cons, List.length_nil, Nat.reduceSub]); first | done | exact rfl))
local macro_rules | `(tactic| walk_at "gcond") => `(tactic| first | assumption | decide | omega)
local macro_rules | `(tactic| walk_at "gside") => `(tactic| first | exact rfl | (refine if_pos ?hc; (case hc => walk_at "gcond")))
local macro_rules | `(tactic| walk_at "gs1") => `(tactic| first
  | (with_reducible refine GR.w_seq ?_)
  | (with_reducible refine GR.w_if ?_)
  | (with_reducible refine GR.w_set ?_)
  | (with_reducible refine GR.w_setOwn ?_)
  | (with_reducible refine GR.w_op2 ?_)
  | ((with_reducible refine GR.w_var (d := ?d) ?h ?_); (case h => exact rfl))
  | ((with_reducible refine GR.w_own (d := ?d) ?h ?_); (case h => exact rfl))
  | (with_reducible refine GR.w_c ?_)
  | ((with_reducible refine GR.s_op2 (da := ?da) (db := ?db) (d := ?d) ?h1 ?h2 ?h3 ?_); (case h1 => exact rfl); (case h2 => exact rfl); (case h3 => walk_at "gside"))
  | ((with_reducible refine GR.s_set (d := ?d) (e2 := ?e2) (e3 := ?e3) ?h1 ?h2 ?_); (case h1 => exact rfl); (case h2 => walk_at "gn"))
  | ((with_reducible refine GR.s_setOwn (e3 := ?e3) ?h1 ?h2 ?_); (case h1 => exact rfl); (case h2 => walk_at "gn"))
  | (with_reducible refine GR.w_op1 ?_)
  | ((with_reducible refine GR.s_op1 (da := ?da) (d := ?d) ?h1 ?h3 ?_); (case h1 => exact rfl); (case h3 => walk_at "gside"))
  | (with_reducible refine GR.w_anil ?_)
  | (with_reducible refine GR.w_acons ?_)
  | (with_reducible refine GR.w_new ?_)
  | ((with_reducible refine GR.s_new (ds := ?ds) (e2 := ?e2) (d := ?d) ?h1 ?h3 ?_); (case h1 => exact rfl); (case h3 => walk_at "gside"))
  | (with_reducible refine GR.w_app ?_)
  | ((with_reducible refine GR.s_app (ds := ?ds) (d := ?d) ?h1 ?h3 ?_); (case h1 => exact rfl); (case h3 => walk_at "gside"))
  | (with_reducible refine GR.w_call ?_)
  | (with_reducible refine GR.w_callKw ?_)
  | (with_reducible refine GR.w_make ?_)
  | (with_reducible refine GR.w_makeKw ?_)
  | ((with_reducible refine GR.s_len ?h1 ?_); (case h1 => exact rfl))
  | ((with_reducible refine GR.s_call (ds := ?ds) ?h1 ?h2 ?_); (case h1 => exact rfl); (case h2 => exact rfl))
  | ((with_reducible refine GR.s_mk (ds := ?ds) ?h1 ?_); (case h1 => exact rfl))
  | (with_reducible refine GR.w_truth ?_)
  | ((with_reducible refine GR.s_truth (d := ?d) (b := ?b) ?h1 ?h3 ?_); (case h1 => exact rfl); (case h3 => walk_at "gside"))
  | (with_reducible refine GR.w_bool ?_)
  | (with_reducible refine GR.s_bool ?_)
  | (with_reducible refine GR.w_and ?_)
  | (with_reducible refine GR.w_or ?_)
  | (with_reducible refine GR.w_not ?_)
  | (with_reducible refine GR.w_ifE ?_)
  | (with_reducible refine GR.w_andE ?_)
  | (with_reducible refine GR.w_orE ?_)
  | (with_reducible refine GR.w_notE ?_)
  | (with_reducible refine GR.s_twoE ?_)
  | (with_reducible refine GR.s_twoT ?_)
  | (with_reducible refine GR.s_twoF ?_)
  | (with_reducible refine GR.s_twoN ?_)
  | (with_reducible refine GR.w_chain ?_)
  | (with_reducible refine GR.s_val ?_)
  | ((with_reducible refine GR.s_ch1 (b := ?b) ?h1 ?_); (case h1 => walk_at "gside"))
  | ((with_reducible refine GR.s_ch2 (d := ?d) ?h1 ?_); (case h1 => walk_at "gside"))
  | (with_reducible refine GR.w_next ?_)
  | (with_reducible refine GR.w_brk ?_)
  | (with_reducible refine GR.w_cnt ?_)
  | (with_reducible refine GR.w_expr ?_)
  | (with_reducible refine GR.w_ret ?_)
  | ((with_reducible refine GR.s_ret (d := ?d) (e2 := ?e2) ?h1 ?_); (case h1 => exact rfl))
  | (with_reducible refine GR.w_raise ?_)
  | (with_reducible refine GR.w_asgT ?_)
  | ((with_reducible refine GR.s_asg (e2 := ?e2) ?h1 ?_); (case h1 => exact rfl))
  | (with_reducible refine GR.w_setIx ?_)
  | ((with_reducible refine GR.s_ix1 (d := ?d) (e1 := ?e1) (c := ?c) ?h1 ?h2 ?_); (case h1 => exact rfl); (case h2 => exact rfl))
  | ((with_reducible refine GR.s_ix2 (c := ?c) (c' := ?c') (e3 := ?e3) ?h1 ?h2 ?h3 ?_); (case h1 => exact rfl); (case h2 => walk_at "gside"); (case h3 => walk_at "gn"))
  | ((with_reducible refine GR.w_meth (xs := ?xs) ?h0 ?_); (case h0 => exact rfl))
  | ((with_reducible refine GR.s_meth (ds := ?ds) (e2 := ?e2) (c := ?c) (d := ?d) (c' := ?c') (e3 := ?e3) ?h1 ?h2 ?h3 ?h4 ?_); (case h1 => exact rfl); (case h2 => exact rfl); (case h3 => walk_at "gside"); (case h4 => walk_at "gn"))
  | (with_reducible refine GR.w_setFld ?_)
  | ((with_reducible refine GR.s_fld (d := ?d) (e1 := ?e1) (gs := ?gs) (e3 := ?e3) ?h1 ?h2 ?h3 ?h4 ?_); (case h1 => exact rfl); (case h2 => exact rfl); (case h3 => decide); (case h4 => walk_at "gn"))
  | (with_reducible refine GR.w_items ?_)
  | ((with_reducible refine GR.s_items (ds := ?ds) ?h1 ?_); (case h1 => exact rfl))
  | (with_reducible refine GR.w_itemsA ?_)
  | ((with_reducible refine GR.s_itemsA (ds := ?ds) (e2 := ?e2) (its := ?its) ?h1 ?h2 ?_); (case h1 => exact rfl); (case h2 => walk_at "gside"))
  | (with_reducible refine GR.w_for ?_)
  | (with_reducible refine GR.w_comp ?_)
  | (with_reducible refine GR.w_yes ?_)
  | (with_reducible refine GR.w_slice ?_)
  | (with_reducible refine GR.w_part0 ?_)
  | (with_reducible refine GR.w_part1 ?_)
  | (with_reducible refine GR.s_int ?_)
  | ((with_reducible refine GR.s_sl (d := ?d) (c := ?c) ?h1 ?h2 ?_); (case h1 => exact rfl); (case h2 => walk_at "gside"))
  | (with_reducible refine GR.w_prop ?_)
  | ((with_reducible refine GR.s_prop (gs := ?gs) ?h1 ?h2 ?_); (case h1 => exact rfl); (case h2 => exact rfl))
  | (with_reducible refine GR.w_methD ?_)
  | ((with_reducible refine GR.s_rec (gs := ?gs) ?h1 ?h2 ?_); (case h1 => exact rfl); (case h2 => exact rfl))
  | (with_reducible refine GR.w_try ?_)
  | (with_reducible refine GR.w_xval ?_)
  | (with_reducible refine GR.w_isX ?_)
  | ((with_reducible refine GR.s_isX (b := ?b) ?h1 ?_); (case h1 => walk_at "gside"))
  | ((with_reducible refine GR.w_bor (ds := ?ds) ?h0 ?_); (case h0 => exact rfl))
  | ((with_reducible refine GR.s_bor (e2 := ?e2) ?h1 ?h2 ?_); (case h1 => exact rfl); (case h2 => walk_at "gn"))
  | (with_reducible refine GR.w_eqO ?_)
  | ((with_reducible refine GR.w_meth0 (xs := ?xs) (r := ?r) (c' := ?cc) (e3 := ?e3) ?h0 ?h1 ?h2 ?_); (case h0 => exact rfl); (case h1 => exact rfl); (case h2 => walk_at "gn"))
  | (with_reducible refine GR.w_get ?_)
  | ((with_reducible refine GR.s_get1 (ks := ?ks) ?h1 ?_); (case h1 => exact rfl))
  | ((with_reducible refine GR.s_get (l := ?l) (i := ?i) ?h1 ?h2 ?_); (case h1 => exact rfl); (case h2 => exact rfl))
  | ((with_reducible refine GR.w_lck (ks := ?ks) ?h0 ?_); (case h0 => exact rfl))
  | (with_reducible refine GR.s_val1 ?_)
  | ((with_reducible refine GR.w_borD (ks := ?ks) ?h0 ?_); (case h0 => exact rfl))
  | (with_reducible refine GR.w_methK ?_)
  | (with_reducible refine GR.w_set2 ?_)
  | ((with_reducible refine GR.s_set2 (d := ?d) (e2 := ?e2) (e3 := ?e3) ?h1 ?h2 ?_); (case h1 => exact rfl); (case h2 => walk_at "gn"))
  | (with_reducible refine GR.w_pars ?_)
  | (with_reducible refine GR.wParN ?_)
  | (with_reducible refine GR.wParC ?_)
  | ((with_reducible refine GR.s_parF (d := ?d) (e2 := ?e2) ?h1 ?_); (case h1 => exact rfl))
  | ((with_reducible refine GR.s_parT ?h1 ?_); (case h1 => exact rfl))
  | ((with_reducible refine GR.s_env (e2 := ?e2) ?h1 ?h2 ?_); (case h1 => exact rfl); (case h2 => walk_at "gn"))
  | ((with_reducible refine GR.s_ok ?h1 ?_); (case h1 => exact rfl))
  | ((with_reducible refine GR.s_put (e2 := ?e2) ?h1 ?_); (case h1 => walk_at "gn"))
  | ((with_reducible refine GR.s_made ?h1 ?_); (case h1 => exact rfl))
  | ((with_reducible refine GR.s_madeX ?h1 ?_); (case h1 => exact rfl))
  | ((with_reducible refine GR.s_io (os := ?os) ?h1 ?_); (case h1 => exact rfl)))
local macro_rules | `(tactic| walk_at "gs") => `(tactic| repeat' walk_at "gs1")

namespace K04
open PySem L2 GR
def mix1 (a b c m : Int) : Int :=
  (((b + 15485863 * (c + 1)) ^ 3 % 162259276829213363391578010288127 + 32452843 * (c + 1)) ^ 3 % 170141183460469231731687303715884105727) / 1048576 % m
theorem log_lt {a : Int} {k : Nat} (h : a.natAbs < 2 ^ k) (hk : 0 < k) : a.natAbs.log2 < k := by
  by_cases z : a.natAbs = 0
  · rw [z]; simpa using hk
  · exact (Nat.log2_lt z).mpr h
/-- a pool: b, and n mixed draws at most -/
def Pl (n : Nat) (b c : Int) : Prop := 0 ≤ b ∧ b < 2 ^ 62 ∧ 0 ≤ c ∧ c ≤ n
theorem Pl.mono {n m : Nat} {b c : Int} (h : Pl n b c) (l : n ≤ m) : Pl m b c := ⟨h.1, h.2.1, h.2.2.1, by have := h.2.2.2; omega⟩
theorem draw_w {ca : Nat → Addr} {cR : Addr} {n : Nat} {a b c m : Int} {P : RO → List D → Prop} (hp : Pl n b c) (hn : n < 2 ^ 100) (hm : 0 < m) (hm2 : m < 2 ^ 128)
    (k : ∀ r a' b' c', 0 ≤ r → r < m → Pl (n + 1) b' c' → P (.val (.int r)) [.lst [.int a', .int b', .int c']]) : wO (G_law_draw ca cR [.lst [.int a, .int b, .int c], .int m]) P := by
  unfold G_law_draw
  refine w_runE (env := ?e) rfl ?he ?_
  case he => walk_at "gn"
  unfold f_law_draw
  walk_at "gs"
  obtain ⟨p1, p2, p3, p4⟩ := hp
  have hn' : n < 1267650600228229401496703205376 := hn
  have p2' : b < 4611686018427387904 := p2
  have l0 : 0 < m ∧ m.natAbs.log2 < 9000 := ⟨hm, Nat.lt_trans (log_lt (k := 128) (by omega) (by decide)) (by decide)⟩
  refine s_twoD (fun h => ?_) (fun h => ?_)
  · walk_at "gs"
    exact k _ _ _ _ (Int.emod_nonneg _ (by omega)) (Int.emod_lt_of_pos _ hm) ⟨p1, p2, p3, by omega⟩
  · have l1 : (c + 1).natAbs.log2 < 101 := log_lt (by omega) (by decide)
    have e1 : (15485863 : Int).natAbs.log2 + (c + 1).natAbs.log2 < 1000000 := by
      have : (15485863 : Int).natAbs.log2 = 23 := by decide
      omega
    have e2 : (32452843 : Int).natAbs.log2 + (c + 1).natAbs.log2 < 1000000 := by
      have : (32452843 : Int).natAbs.log2 = 24 := by decide
      omega
    have e3 : (0 : Int) ≤ 3 ∧ (((3 : Int) ≤ 1000000 ∧ (b + 15485863 * (c + 1)).natAbs < 2 ^ 64) ∨ ((3 : Int) ≤ 1000 ∧ (b + 15485863 * (c + 1)).natAbs < 2 ^ 1024)) := by
      refine ⟨by decide, .inr ⟨by decide, Nat.lt_of_lt_of_le (show _ < 2 ^ 200 by omega) (Nat.pow_le_pow_right (by decide) (by decide))⟩⟩
    have e4 : (0 : Int) ≤ 3 ∧ (((3 : Int) ≤ 1000000 ∧ ((b + 15485863 * (c + 1)) ^ (3 : Int).toNat % 162259276829213363391578010288127 + 32452843 * (c + 1)).natAbs < 2 ^ 64) ∨ ((3 : Int) ≤ 1000 ∧ ((b + 15485863 * (c + 1)) ^ (3 : Int).toNat % 162259276829213363391578010288127 + 32452843 * (c + 1)).natAbs < 2 ^ 1024)) := by
      have h1 := Int.emod_nonneg ((b + 15485863 * (c + 1)) ^ (3 : Int).toNat) (show (162259276829213363391578010288127 : Int) ≠ 0 by decide)
      have h2 := Int.emod_lt_of_pos ((b + 15485863 * (c + 1)) ^ (3 : Int).toNat) (show (0 : Int) < 162259276829213363391578010288127 by decide)
      exact ⟨by decide, .inr ⟨by decide, Nat.lt_of_lt_of_le (show _ < 2 ^ 200 by omega) (Nat.pow_le_pow_right (by decide) (by decide))⟩⟩
    walk_at "gs"
    exact k _ _ _ _ (Int.emod_nonneg _ (by omega)) (Int.emod_lt_of_pos _ hm) ⟨p1, p2, by omega, by omega⟩
end K04
/-! N04 -/
set_option linter.all false
set_option maxRecDepth 100000
set_option maxHeartbeats 0
namespace K04
open PySem L2 GR

def tD (t : Int × Int) : D := .tup [.int t.1, .int t.2]
/-- the first wrong term: S the offsets so far, k the number so far -/
def badAt (p : Int) : List Int → Nat → List (Int × Int) → Option Nat
  | _, _, [] => none
  | S, k, (c, o) :: r => if ¬ (0 < c ∧ c < p) ∨ o ∈ S then some k else badAt p (S ++ [o]) (k + 1) r
def enumK (k : Nat) (ds : List D) : List D := ds.mapIdx fun i d => .tup [.int ((k + i : Nat) : Int), d]
theorem enumK_zero (ds : List D) : enumD ds = enumK 0 ds := by
  unfold enumD enumK
  congr 1; funext i d; simp
theorem enumK_cons (k : Nat) (d : D) (ds : List D) : enumK k (d :: ds) = .tup [.int (k : Int), d] :: enumK (k + 1) ds := by
  unfold enumK
  rw [List.mapIdx_cons]
  congr 1
  congr 1; funext i e
  have : k + 1 + i = k + (i + 1) := by omega
  rw [this]
theorem any_putD (ks : List (Key × D)) (k : Key) (d : D) (x : Key) : ((putD ks k d).any fun kv => decide (kv.1 = x)) = ((ks.any fun kv => decide (kv.1 = x)) || decide (k = x)) := by
  unfold putD
  split
  · rename_i h
    have e : ((ks.map fun kv => if kv.1 = k then (kv.1, d) else kv).any fun kv => decide (kv.1 = x)) = ks.any fun kv => decide (kv.1 = x) := by
      rw [List.any_map]
      congr 1; funext kv
      simp only [Function.comp]
      split <;> rfl
    rw [e]
    by_cases z : k = x
    · subst z; simp [h]
    · simp [z]
  · rw [List.any_append]; simp
theorem putD_len (ks : List (Key × D)) (k : Key) (d : D) : (putD ks k d).length ≤ ks.length + 1 := by
  unfold putD
  split
  · simp
  · simp
def chkBody (ca : Nat → Addr) : SF := fSeq (fIf (fOr (fNot (fBool (fChain gLt gLt (fC (.int 0)) (fVar 4) (fVar 0)))) (fBool (fOp2 (gIn false) (fVar 5) (fOwn 2)))) (fRaise g_check_rule (ca 2) (fVar 3)) fNext) (fSetIx g_check_rule 2 (fVar 5) (fC (.bl true)))
theorem chk_turn {ca : Nat → Addr} {p c o : Int} {k : Nat} {ls : D} {ks : List (Key × D)} (hl : ks.length < 16777216) :
    chkBody ca [some (.int p), some ls, some (.dK ks), some (.int k), some (.int c), some (.int o)] =
      if ¬ (0 < c ∧ c < p) ∨ (ks.any fun kv => decide (kv.1 = .inl o)) = true then some (.exc (ca 2) (.int k), [some (.int p), some ls, some (.dK ks), some (.int k), some (.int c), some (.int o)])
      else some (.nx, [some (.int p), some ls, some (.dK (putD ks (.inl o) (.bl true))), some (.int k), some (.int c), some (.int o)]) := by
  unfold chkBody
  by_cases h1 : 0 < c
  · by_cases h2 : c < p
    · cases h3 : (ks.any fun kv => decide (kv.1 = .inl o)) with
      | true => simp [runD, fSeq, fIf, fBool, fTruth, fNot, fOr, fAnd, fOp2, fOp1, bind1, fOwn, fVar, fC, res, gIx, atI, ixN, gGt, gLt, gLe, gGe, fSet, fSetOwn, isBox, fApp, fACons, fANil, ress, gInt, gMod, gDiv, mv, mvs, fSetIx, setIxK, gPut, fRet, ioOf, gAdd, gMul3, gMul, gPow3, fNext, fRaise, fChain, D.truth, tgTup, tgAll, tgName, fFor, fItemsA, wipeE, fNew, gLstD, gTupD, gIn, h1, h2, h3, hl]
      | false => simp [runD, fSeq, fIf, fBool, fTruth, fNot, fOr, fAnd, fOp2, fOp1, bind1, fOwn, fVar, fC, res, gIx, atI, ixN, gGt, gLt, gLe, gGe, fSet, fSetOwn, isBox, fApp, fACons, fANil, ress, gInt, gMod, gDiv, mv, mvs, fSetIx, setIxK, gPut, fRet, ioOf, gAdd, gMul3, gMul, gPow3, fNext, fRaise, fChain, D.truth, tgTup, tgAll, tgName, fFor, fItemsA, wipeE, fNew, gLstD, gTupD, gIn, h1, h2, h3, hl]
    · simp [runD, fSeq, fIf, fBool, fTruth, fNot, fOr, fAnd, fOp2, fOp1, bind1, fOwn, fVar, fC, res, gIx, atI, ixN, gGt, gLt, gLe, gGe, fSet, fSetOwn, isBox, fApp, fACons, fANil, ress, gInt, gMod, gDiv, mv, mvs, fSetIx, setIxK, gPut, fRet, ioOf, gAdd, gMul3, gMul, gPow3, fNext, fRaise, fChain, D.truth, tgTup, tgAll, tgName, fFor, fItemsA, wipeE, fNew, gLstD, gTupD, gIn, h1, h2, hl]
  · simp [runD, fSeq, fIf, fBool, fTruth, fNot, fOr, fAnd, fOp2, fOp1, bind1, fOwn, fVar, fC, res, gIx, atI, ixN, gGt, gLt, gLe, gGe, fSet, fSetOwn, isBox, fApp, fACons, fANil, ress, gInt, gMod, gDiv, mv, mvs, fSetIx, setIxK, gPut, fRet, ioOf, gAdd, gMul3, gMul, gPow3, fNext, fRaise, fChain, D.truth, tgTup, tgAll, tgName, fFor, fItemsA, wipeE, fNew, gLstD, gTupD, gIn, h1, hl]
def tgT : GT := tgTup [(tgName 3), (tgTup [(tgName 4), (tgName 5)])]
def Sees (S : List Int) (ks : List (Key × D)) : Prop := ∀ o, (ks.any fun kv => decide (kv.1 = .inl o)) = decide (o ∈ S)
theorem chk_loop {ca : Nat → Addr} {p : Int} {ls : D} : ∀ (r : List (Int × Int)) (k : Nat) (S : List Int) (ks : List (Key × D)) (x3 x4 x5 : Option D), Sees S ks → ks.length + r.length < 16777216 →
    match badAt p S k r with
    | some i => ∃ e', goFor [3, 4, 5] tgT (chkBody ca) (enumK k (r.map tD)) [some (.int p), some ls, some (.dK ks), x3, x4, x5] = some (.exc (ca 2) (.int i), e')
    | none => ∃ e', goFor [3, 4, 5] tgT (chkBody ca) (enumK k (r.map tD)) [some (.int p), some ls, some (.dK ks), x3, x4, x5] = some (.nx, e')
  | [], _, _, _, _, _, _, _, _ => ⟨_, rfl⟩
  | (c, o) :: r, k, S, ks, x3, x4, x5, hS, hl => by
    have hl' : ks.length < 16777216 := by simp at hl; omega
    have t := chk_turn (ca := ca) (p := p) (c := c) (o := o) (k := k) (ls := ls) (ks := ks) hl'
    rw [List.map_cons, enumK_cons]
    unfold badAt
    have tg : tgT (.tup [.int (k : Int), tD (c, o)]) [some (.int p), some ls, some (.dK ks), x3, x4, x5] = some [some (.int p), some ls, some (.dK ks), some (.int k), some (.int c), some (.int o)] := by
      simp [tgT, tgTup, tgAll, tgName, tD]
    have cond : (¬ (0 < c ∧ c < p) ∨ o ∈ S) ↔ (¬ (0 < c ∧ c < p) ∨ (ks.any fun kv => decide (kv.1 = .inl o)) = true) := by
      rw [hS o]; simp
    by_cases h : ¬ (0 < c ∧ c < p) ∨ o ∈ S
    · rw [if_pos h]
      rw [if_pos (cond.mp h)] at t
      refine ⟨[some (.int p), some ls, some (.dK ks), some (.int k), some (.int c), some (.int o)], ?_⟩
      unfold goFor
      rw [tg]
      simp only [t]
    · rw [if_neg h]
      rw [if_neg (fun z => h (cond.mpr z))] at t
      have ih := chk_loop (ca := ca) (p := p) (ls := ls) r (k + 1) (S ++ [o]) (putD ks (.inl o) (.bl true)) none none none (fun o' => by
        rw [any_putD, hS o']
        have e : decide ((Sum.inl o : Key) = .inl o') = decide (o = o') := by
          by_cases z : o = o'
          · subst z; simp
          · have : (Sum.inl o : Key) ≠ .inl o' := fun q => z (Sum.inl.inj q)
            simp [z]
        rw [e]
        by_cases z1 : o' ∈ S <;> by_cases z2 : o = o'
        · simp [z1]
        · simp [z1]
        · subst z2; simp
        · have z3 : ¬ o' = o := fun q => z2 q.symm
          simp [z1, z2, z3]) (by have := putD_len ks (.inl o) (.bl true); simp at hl; omega)
      have step : goFor [3, 4, 5] tgT (chkBody ca) (.tup [.int (k : Int), tD (c, o)] :: enumK (k + 1) (r.map tD)) [some (.int p), some ls, some (.dK ks), x3, x4, x5] = goFor [3, 4, 5] tgT (chkBody ca) (enumK (k + 1) (r.map tD)) [some (.int p), some ls, some (.dK (putD ks (.inl o) (.bl true))), none, none, none] := by
        conv => lhs; unfold goFor
        rw [tg]
        simp only [t]
        rfl
      rw [step]
      exact ih
/-- what is wrong: the class, the thing -/
def dueOf (p : Int) (ls : List (Int × Int)) : Option (Nat × D) :=
  if p ≠ 2 ∧ p ≠ 3 ∧ p ≠ 5 then some (1, .int p) else if ls = [] then some (2, .non) else (badAt p [] 0 ls).map fun i => (2, .int i)
theorem G_check {ca : Nat → Addr} {cR : Addr} {p : Int} {ls : List (Int × Int)} (hl : ls.length < 16777216) : G_check_rule ca cR [.int p, .lst (ls.map tD)] = match dueOf p ls with
    | some (i, d) => some (.exc (ca i) d, [])
    | none => some (.val .non, []) := by
  unfold dueOf
  by_cases hp : p ≠ 2 ∧ p ≠ 3 ∧ p ≠ 5
  · rw [if_pos hp]
    have e : [2, 3, 5].contains p = false := by simp [hp.1, hp.2.1, hp.2.2]
    simp [runD, fSeq, fIf, fBool, fTruth, fNot, fOr, fAnd, fOp2, fOp1, bind1, fOwn, fVar, fC, res, gIx, atI, ixN, gGt, gLt, gLe, gGe, fSet, fSetOwn, isBox, fApp, fACons, fANil, ress, gInt, gMod, gDiv, mv, mvs, fSetIx, setIxK, gPut, fRet, ioOf, gAdd, gMul3, gMul, gPow3, fNext, fRaise, fChain, D.truth, tgTup, tgAll, tgName, fFor, fItemsA, wipeE, fNew, gLstD, gTupD, G_check_rule, f_check_rule, gIn, d_PRIMES, intsOf, hp]
  · rw [if_neg hp]
    have e : p = 2 ∨ p = 3 ∨ p = 5 := by omega
    cases ls with
    | nil => rcases e with rfl | rfl | rfl <;> simp [runD, fSeq, fIf, fBool, fTruth, fNot, fOr, fAnd, fOp2, fOp1, bind1, fOwn, fVar, fC, res, gIx, atI, ixN, gGt, gLt, gLe, gGe, fSet, fSetOwn, isBox, fApp, fACons, fANil, ress, gInt, gMod, gDiv, mv, mvs, fSetIx, setIxK, gPut, fRet, ioOf, gAdd, gMul3, gMul, gPow3, fNext, fRaise, fChain, D.truth, tgTup, tgAll, tgName, fFor, fItemsA, wipeE, fNew, gLstD, gTupD, G_check_rule, f_check_rule, gIn, d_PRIMES, intsOf]
    | cons t r =>
      rw [if_neg (by simp)]
      have lp := chk_loop (ca := ca) (p := p) (ls := .lst ((t :: r).map tD)) (t :: r) 0 [] [] none none none (fun o => by simp) (by simpa using hl)
      have big : f_check_rule ca cR [some (.int p), some (.lst ((t :: r).map tD)), none, none, none, none] = goFor [3, 4, 5] tgT (chkBody ca) (enumK 0 ((t :: r).map tD)) [some (.int p), some (.lst ((t :: r).map tD)), some (.dK []), none, none, none] := by
        unfold f_check_rule
        rw [← enumK_zero]
        rcases e with rfl | rfl | rfl <;> simp [runD, fSeq, fIf, fBool, fTruth, fNot, fOr, fAnd, fOp2, fOp1, bind1, fOwn, fVar, fC, res, gIx, atI, ixN, gGt, gLt, gLe, gGe, fSet, fSetOwn, isBox, fApp, fACons, fANil, ress, gInt, gMod, gDiv, mv, mvs, fSetIx, setIxK, gPut, fRet, ioOf, gAdd, gMul3, gMul, gPow3, fNext, fRaise, fChain, D.truth, tgTup, tgAll, tgName, fFor, fItemsA, wipeE, fNew, gLstD, gTupD, gIn, d_PRIMES, intsOf, enumItems, tgT, chkBody]
      have run : G_check_rule ca cR [.int p, .lst ((t :: r).map tD)] = match goFor [3, 4, 5] tgT (chkBody ca) (enumK 0 ((t :: r).map tD)) [some (.int p), some (.lst ((t :: r).map tD)), some (.dK []), none, none, none] with
        | some (.nx, e) => some (.val .non, [])
        | some (.ret d, e) => some (.val d, [])
        | some (.exc C d, e) => some (.exc C d, [])
        | _ => none := by
        rw [← big]
        rfl
      rw [run]
      cases hb : badAt p [] 0 (t :: r) with
      | none =>
        rw [hb] at lp
        obtain ⟨e', he⟩ := lp
        rw [he]; rfl
      | some i =>
        rw [hb] at lp
        obtain ⟨e', he⟩ := lp
        rw [he]; rfl
end K04
/-! P04 -/
set_option linter.all false
set_option maxRecDepth 100000
set_option maxHeartbeats 0
namespace K04
open PySem L2 GR
def srtD (ls : List (Int × Int)) : List D := (ls.map tD).mergeSort fun a b => decide (keyZ 1 a ≤ keyZ 1 b)
theorem keys_all (ls : List (Int × Int)) : ((ls.map tD).all fun d => (keyI 1 d).isSome) = true := by
  rw [List.all_map, List.all_eq_true]
  intro t _
  rfl
theorem G_init {ca : Nat → Addr} {cR : Addr} {p : Int} {ls : List (Int × Int)} (hl : ls.length < 16777216) : G_Rule_init ca cR [.ins cR [], .int p, .lst (ls.map tD)] = match dueOf p ls with
    | some (i, d) => some (.exc (ca i) d, [.ins cR []])
    | none => some (.val .non, [.ins cR [("_prime", .int p), ("_terms", .tup (srtD ls))]]) := by
  have c := G_check (ca := ca) (cR := cR) (p := p) hl
  have ka := keys_all ls
  have ne : ¬ (Str.ofString "_prime" = Str.ofString "_terms") := by decide
  cases e : dueOf p ls with
  | none =>
    rw [e] at c
    simp [runD, fSeq, fIf, fBool, fTruth, fNot, fOr, fAnd, fOp2, fOp1, bind1, fOwn, fVar, fC, res, gIx, atI, ixN, gGt, gLt, gLe, gGe, fSet, fSetOwn, isBox, fApp, fACons, fANil, ress, gInt, gMod, gDiv, mv, mvs, fSetIx, setIxK, gPut, fRet, ioOf, gAdd, gMul3, gMul, gPow3, fNext, fRaise, fChain, D.truth, tgTup, tgAll, tgName, fFor, fItemsA, wipeE, fNew, gLstD, gTupD, G_Rule_init, f_Rule_init, fExpr, fCall, callK, argsFit, noLent, slotsOf, c, fSetFld, putFD, fSortKey, gSortKey, gTupOf, ka, srtD, D.shallow, D.imms, D.imm, putIo, ne]
  | some x =>
    obtain ⟨i, d⟩ := x
    rw [e] at c
    simp [runD, fSeq, fIf, fBool, fTruth, fNot, fOr, fAnd, fOp2, fOp1, bind1, fOwn, fVar, fC, res, gIx, atI, ixN, gGt, gLt, gLe, gGe, fSet, fSetOwn, isBox, fApp, fACons, fANil, ress, gInt, gMod, gDiv, mv, mvs, fSetIx, setIxK, gPut, fRet, ioOf, gAdd, gMul3, gMul, gPow3, fNext, fRaise, fChain, D.truth, tgTup, tgAll, tgName, fFor, fItemsA, wipeE, fNew, gLstD, gTupD, G_Rule_init, f_Rule_init, fExpr, fCall, callK, argsFit, noLent, slotsOf, c, D.shallow, D.imms, D.imm, putIo]
end K04
/-! E04 -/
set_option linter.all false
set_option maxRecDepth 100000
set_option maxHeartbeats 0


namespace K04
open PySem L2 GR
/-- a drawn kind of rule -/
structure Kd (p : Int) (ls : List (Int × Int)) : Prop where
  pr : p = 2 ∨ p = 3 ∨ p = 5
  ne : ls ≠ []
  len : ls.length ≤ 5
  co : ∀ t ∈ ls, 1 ≤ t.1 ∧ t.1 < p
  nd : (ls.map Prod.snd).Nodup
  off : ∃ lo w : Int, -8 ≤ lo ∧ lo + w ≤ 8 ∧ 0 ≤ w ∧ (p = 2 → w ≤ 4) ∧ (p = 3 → w ≤ 3) ∧ (p = 5 → w ≤ 2) ∧ ∀ t ∈ ls, lo ≤ t.2 ∧ t.2 ≤ lo + w
/-- one more term, anywhere -/
def insT (ls : List (Int × Int)) (i : Nat) (t : Int × Int) : List (Int × Int) := ls.take i ++ [t] ++ ls.drop i
theorem insT_map (ls : List (Int × Int)) (i : Nat) (t : Int × Int) : (ls.map tD).take i ++ [tD t] ++ (ls.map tD).drop i = (insT ls i t).map tD := by
  unfold insT
  rw [List.map_append, List.map_append, List.map_take, List.map_drop]; rfl
theorem insT_mem {ls : List (Int × Int)} {i : Nat} {t x : Int × Int} : x ∈ insT ls i t ↔ x = t ∨ x ∈ ls := by
  unfold insT
  conv => rhs; rw [← List.take_append_drop i ls]
  simp only [List.mem_append, List.mem_singleton]
  constructor
  · rintro ((h | h) | h)
    · exact .inr (.inl h)
    · exact .inl h
    · exact .inr (.inr h)
  · rintro (h | h | h)
    · exact .inl (.inr h)
    · exact .inl (.inl h)
    · exact .inr h
theorem insT_len (ls : List (Int × Int)) (i : Nat) (t : Int × Int) : (insT ls i t).length = ls.length + 1 := by
  have e := congrArg List.length (List.take_append_drop i ls)
  rw [List.length_append] at e
  unfold insT
  simp only [List.length_append, List.length_cons, List.length_nil]
  omega
theorem insT_nodup {ls : List (Int × Int)} {i : Nat} {t : Int × Int} (h : (ls.map Prod.snd).Nodup) (n : t.2 ∉ ls.map Prod.snd) : ((insT ls i t).map Prod.snd).Nodup := by
  have pm : (insT ls i t).Perm (t :: ls) := by
    unfold insT
    have p1 : (ls.take i ++ [t] ++ ls.drop i).Perm (t :: (ls.take i ++ ls.drop i)) := by
      rw [List.append_assoc]
      exact List.perm_middle
    rw [List.take_append_drop] at p1
    exact p1
  rw [(pm.map Prod.snd).nodup_iff, List.map_cons, List.nodup_cons]
  exact ⟨n, h⟩
theorem kind_w {ca : Nat → Addr} {cR : Addr} {n : Nat} {a b c : Int} {P : RO → List D → Prop} (hp : Pl n b c) (hn : n + 20 < 2 ^ 100)
    (k : ∀ p ls a' b' c', Kd p ls → Pl (n + 20) b' c' → P (.val (.tup [.int p, .lst (ls.map tD)])) [.lst [.int a', .int b', .int c']]) : wO (G_law_kind ca cR [.lst [.int a, .int b, .int c]]) P := by
  have hn : n + 20 < 1267650600228229401496703205376 := hn
  have big : ∀ m, m < n + 20 → m < 2 ^ 100 := fun m hm => Nat.lt_trans hm hn
  unfold G_law_kind
  refine w_runE (env := ?e) rfl ?he ?_
  case he => walk_at "gn"
  unfold f_law_kind
  walk_at "gs"
  refine draw_w hp (big _ (by omega)) (by decide) (by decide) fun r a b c h0 h1 hp => ?_
  walk_at "gs"
  refine s_ixA rfl rfl h0 h1 fun d hd => ?_
  obtain ⟨p, rfl, hpr⟩ : ∃ p : Int, d = .int p ∧ (p = 2 ∨ p = 3 ∨ p = 5) := by
    simp only [List.mem_cons, List.not_mem_nil, or_false] at hd
    rcases hd with rfl | rfl | rfl | rfl <;> exact ⟨_, rfl, by omega⟩
  clear hd
  walk_at "gs"
  obtain ⟨w0, hw0, hwb⟩ : ∃ w0 : Int, gIx (.dK (dispD [(2, 5), (3, 4), (5, 3)])) (.int p) = some (.int w0) ∧ (p = 2 → w0 = 5) ∧ (p = 3 → w0 = 4) ∧ (p = 5 → w0 = 3) := by
    rcases hpr with rfl | rfl | rfl
    · exact ⟨5, rfl, by omega⟩
    · exact ⟨4, rfl, by omega⟩
    · exact ⟨3, rfl, by omega⟩
  refine s_op2 rfl rfl hw0 ?_
  walk_at "gs"
  refine draw_w hp (big _ (by omega)) (by omega) (by omega) fun w a b c hw1 hw2 hp => ?_
  walk_at "gs"
  refine draw_w hp (big _ (by omega)) (by omega) (by omega) fun r2 a b c h2 h3 hp => ?_
  walk_at "gs"
  refine draw_w hp (big _ (by omega)) (by omega) (by omega) fun r3 a b c h4 h5 hp => ?_
  walk_at "gs"
  refine s_ixA rfl rfl h4 h5 fun d hd => ?_
  obtain ⟨lo, rfl, hlo⟩ : ∃ lo : Int, d = .int lo ∧ -8 ≤ lo ∧ lo + w ≤ 8 := by
    simp only [List.mem_cons, List.not_mem_nil, or_false] at hd
    rcases hd with rfl | rfl | rfl | rfl <;> exact ⟨_, rfl, by omega, by omega⟩
  clear hd
  walk_at "gs"
  refine w_goRng (fun s e => ∃ (ls : List (Int × Int)) (a b c : Int) (x : Option D), e = [some (.lst [.int a, .int b, .int c]), some (.int p), some (.int w), some (.int lo), some (.lst (ls.map tD)), none, x] ∧
    ls.length ≤ s ∧ (∀ t ∈ ls, (1 ≤ t.1 ∧ t.1 < p) ∧ lo ≤ t.2 ∧ t.2 < lo + s) ∧ (ls.map Prod.snd).Nodup ∧ (0 < s → ls ≠ []) ∧ Pl (n + 5 + 3 * s) b c) ?_ ?_ ?_
  · refine ⟨[], a, b, c, none, rfl, Nat.le_refl _, ?_, List.nodup_nil, ?_, hp.mono (by omega)⟩
    · intro t h
      cases h
    · intro h
      exact absurd h (by decide)
  · rintro s e hs ⟨ls, a, b, c, x, rfl, hl, hls, hnd, hne, hp⟩
    have hsw : s ≤ 5 := by omega
    have hlm : (ls.map tD).length = ls.length := List.length_map ..
    refine ⟨_, rfl, ?_⟩
    refine w_ifM (fun e => ∃ a b c, e = [some (.lst [.int a, .int b, .int c]), some (.int p), some (.int w), some (.int lo), some (.lst (ls.map tD)), some (.int s), x] ∧ Pl (n + 6 + 3 * s) b c)
      (fun e => 0 < s ∧ ∃ a b c, e = [some (.lst [.int a, .int b, .int c]), some (.int p), some (.int w), some (.int lo), some (.lst (ls.map tD)), some (.int s), x] ∧ Pl (n + 6 + 3 * s) b c) ?_ ?_ ?_
    · walk_at "gs"
      refine s_two (fun h => ?_) (fun h => ?_)
      · walk_at "gs"
        exact .inl ⟨rfl, a, b, c, rfl, hp.mono (by omega)⟩
      · have hs0 : 0 < s := by
          rcases Nat.eq_zero_or_pos s with rfl | hs0
          · simp at h
          · exact hs0
        walk_at "gs"
        refine draw_w hp (big _ (by omega)) (by decide) (by decide) fun r a b c h0 h1 hp => ?_
        walk_at "gs"
        by_cases hr : r = 0
        · exact .inl ⟨by rw [decide_eq_true hr], a, b, c, rfl, hp.mono (by omega)⟩
        · exact .inr ⟨by rw [decide_eq_false hr], hs0, a, b, c, rfl, hp.mono (by omega)⟩
    · rintro e ⟨a, b, c, rfl, hp⟩
      walk_at "gs"
      refine draw_w hp (big _ (by omega)) (by omega) (by omega) fun r a b c h0 h1 hp => ?_
      walk_at "gs"
      refine draw_w hp (big _ (by omega)) (by omega) (by omega) fun r2 a b c h2 h3 hp => ?_
      walk_at "gs"
      refine ⟨insT ls r.toNat (1 + r2, lo + s), a, b, c, some (.int r), ?_, ?_, ?_, ?_, ?_, hp.mono (by omega)⟩
      · rw [← insT_map]; rfl
      · rw [insT_len]; omega
      · intro t ht
        rcases insT_mem.mp ht with rfl | ht
        · exact ⟨⟨by show 1 ≤ 1 + r2; omega, by show 1 + r2 < p; omega⟩, by show lo ≤ lo + (s : Int); omega, by show lo + (s : Int) < lo + ((s + 1 : Nat) : Int); omega⟩
        · have := hls t ht
          exact ⟨this.1, this.2.1, by omega⟩
      · refine insT_nodup hnd fun z => ?_
        obtain ⟨t, ht, e⟩ := List.mem_map.mp z
        have := (hls t ht).2.2
        simp only at e
        omega
      · intro _ z
        have := insT_len ls r.toNat (1 + r2, lo + s)
        rw [z] at this
        simp at this
    · rintro e ⟨h0, a, b, c, rfl, hp⟩
      walk_at "gs"
      exact ⟨ls, a, b, c, x, rfl, by omega, fun t ht => ⟨(hls t ht).1, (hls t ht).2.1, by have := (hls t ht).2.2; omega⟩, hnd, fun _ => hne h0, hp.mono (by omega)⟩
  · rintro e ⟨ls, a, b, c, x, rfl, hl, hls, hnd, hne, hp⟩
    walk_at "gs"
    refine k p ls a b c ⟨hpr, hne (by omega), by omega, fun t ht => (hls t ht).1, hnd, lo, w, hlo.1, hlo.2, hw1, by omega, by omega, by omega, fun t ht => ⟨(hls t ht).2.1, by have := (hls t ht).2.2; omega⟩⟩ (hp.mono (by omega))
end K04
/-! A04 -/
set_option linter.all false
set_option maxRecDepth 100000
set_option maxHeartbeats 0


namespace K04
open PySem L2 GR
/-- what a rule is made of, rightly -/
structure Lg (p : Int) (ls : List (Int × Int)) : Prop where
  pr : p = 2 ∨ p = 3 ∨ p = 5
  ne : ls ≠ []
  len : ls.length ≤ 5
  co : ∀ t ∈ ls, 1 ≤ t.1 ∧ t.1 < p
  nd : (ls.map Prod.snd).Nodup
theorem Kd.lg {p : Int} {ls : List (Int × Int)} (h : Kd p ls) : Lg p ls := ⟨h.pr, h.ne, h.len, h.co, h.nd⟩
theorem badAt_none {p : Int} : ∀ (ls : List (Int × Int)) (S : List Int) (k : Nat), (∀ t ∈ ls, 1 ≤ t.1 ∧ t.1 < p) → (ls.map Prod.snd).Nodup → (∀ t ∈ ls, t.2 ∉ S) → badAt p S k ls = none
  | [], _, _, _, _, _ => rfl
  | (c, o) :: r, S, k, h1, h2, h3 => by
    have hc := h1 _ List.mem_cons_self
    have ho := h3 _ List.mem_cons_self
    rw [List.map_cons, List.nodup_cons] at h2
    unfold badAt
    rw [if_neg (by
      rintro (z | z)
      · exact z ⟨by have := hc.1; simp only at this; omega, hc.2⟩
      · exact ho z)]
    refine badAt_none r _ _ (fun t ht => h1 t (List.mem_cons_of_mem _ ht)) h2.2 fun t ht z => ?_
    rcases List.mem_append.mp z with z | z
    · exact h3 t (List.mem_cons_of_mem _ ht) z
    · rw [List.mem_singleton] at z
      exact h2.1 (List.mem_map.mpr ⟨t, ht, z⟩)
theorem due_none {p : Int} {ls : List (Int × Int)} (h : Lg p ls) : dueOf p ls = none := by
  unfold dueOf
  rw [if_neg (by have := h.pr; omega), if_neg h.ne, badAt_none ls [] 0 h.co h.nd (fun _ _ z => nomatch z)]
  rfl
/-- by their offsets -/
def can (ls : List (Int × Int)) : List (Int × Int) := ls.mergeSort fun a b => decide (a.2 ≤ b.2)
theorem srtD_can (ls : List (Int × Int)) : srtD ls = (can ls).map tD := by
  unfold srtD can
  refine (List.map_mergeSort (f := tD) ?_).symm
  intro a _ b _
  rfl
theorem can_perm (ls : List (Int × Int)) : (can ls).Perm ls := List.mergeSort_perm ls _
theorem can_len (ls : List (Int × Int)) : (can ls).length = ls.length := (can_perm ls).length_eq
def linesOf (ls : List (Int × Int)) : List (Int × Int) := sortP (ls.map Prod.swap)
theorem swap_swap (l : List (Int × Int)) : (l.map Prod.swap).map Prod.swap = l := by
  rw [List.map_map]
  conv => rhs; rw [← List.map_id l]
  exact List.map_congr_left fun x _ => rfl
theorem nodup_ne {ls : List (Int × Int)} (h : (ls.map Prod.snd).Nodup) : ls.Pairwise fun a b => a.2 ≠ b.2 := List.pairwise_map.mp h
theorem lines_can {ls : List (Int × Int)} (nd : (ls.map Prod.snd).Nodup) : (linesOf ls).map Prod.swap = can ls := by
  have p2 : ((linesOf ls).map Prod.swap).Perm ls := by
    have := (sortP_perm (ls.map Prod.swap)).map Prod.swap
    rw [swap_swap] at this
    exact this
  refine perm_asc (R := fun a b : Int × Int => a.2 < b.2) (fun a b h1 h2 => by omega) ?_ ?_ (p2.trans (can_perm ls).symm)
  · have h1 : ((linesOf ls).map Prod.swap).Pairwise fun a b => a.2 ≤ b.2 := by
      rw [List.pairwise_map]
      exact (sortP_sorted _).imp fun h => by
        rw [leP_iff] at h
        show _ ≤ _
        simp only [Prod.snd_swap]
        omega
    have h2 := nodup_ne ((p2.map Prod.snd).nodup_iff.mpr nd)
    exact (h1.and h2).imp fun h => by omega
  · have h1 : (can ls).Pairwise fun a b => a.2 ≤ b.2 := by
      have := List.pairwise_mergeSort (le := fun a b : Int × Int => decide (a.2 ≤ b.2)) (fun a b c h1 h2 => by simp at *; omega) (fun a b => by simp; omega) ls
      exact this.imp fun h => by simpa using h
    have h2 := nodup_ne (((can_perm ls).map Prod.snd).nodup_iff.mpr nd)
    exact (h1.and h2).imp fun h => by omega
theorem lines_eq {ls : List (Int × Int)} (nd : (ls.map Prod.snd).Nodup) : linesOf ls = (can ls).map Prod.swap := by
  rw [← lines_can nd, swap_swap]
theorem lines_iff {ls ls' : List (Int × Int)} (n1 : (ls.map Prod.snd).Nodup) (n2 : (ls'.map Prod.snd).Nodup) : linesOf ls = linesOf ls' ↔ can ls = can ls' := by
  constructor
  · intro h; rw [← lines_can n1, ← lines_can n2, h]
  · intro h; rw [lines_eq n1, lines_eq n2, h]
/-- a rule -/
def ruD (cR : Addr) (p : Int) (l : List (Int × Int)) : D := .ins cR [("_prime", .int p), ("_terms", .tup (l.map tD))]
theorem G_initL {ca : Nat → Addr} {cR : Addr} {p : Int} {ls : List (Int × Int)} (h : Lg p ls) : G_Rule_init ca cR [.ins cR [], .int p, .lst (ls.map tD)] = some (.val .non, [ruD cR p (can ls)]) := by
  have e := G_init (ca := ca) (cR := cR) (p := p) (ls := ls) (by have := h.len; omega)
  rw [due_none h] at e
  rw [e, srtD_can]
  rfl
theorem made_w {ca : Nat → Addr} {cR : Addr} {p : Int} {ls : List (Int × Int)} (h : Lg p ls) : G_law_made ca cR [.tup [.int p, .lst (ls.map tD)]] = some (.val (ruD cR p (can ls)), []) := by
  apply wO.eq
  unfold G_law_made
  refine w_runE (env := ?e) rfl ?he ?_
  case he => walk_at "gn"
  unfold f_law_made
  walk_at "gs"
  refine GF_w (G_initL h) ?_
  refine s_made rfl ?_
  walk_at "gs"
  exact ⟨rfl, rfl⟩
theorem gFld_prime {cR : Addr} {p : Int} {l : List (Int × Int)} : gFld cR "_prime" (ruD cR p l) = some (.int p) := by
  simp [gFld, ruD]
theorem gFld_terms {cR : Addr} {p : Int} {l : List (Int × Int)} : gFld cR "_terms" (ruD cR p l) = some (.tup (l.map tD)) := by
  have ne : (Str.ofString "_terms" == Str.ofString "_prime") = false := by decide
  simp [gFld, ruD, List.lookup, ne]
theorem tD_inj {a b : Int × Int} (h : tD a = tD b) : a = b := by
  unfold tD at h
  simp only [D.tup.injEq, List.cons.injEq, D.int.injEq, and_true] at h
  exact Prod.ext h.1 h.2
theorem map_inj {α β : Type} {f : α → β} (hf : ∀ a b, f a = f b → a = b) : ∀ {l m : List α}, l.map f = m.map f → l = m
  | [], [], _ => rfl
  | [], _ :: _, h => by simp at h
  | _ :: _, [], h => by simp at h
  | a :: l, b :: m, h => by
    simp only [List.map_cons, List.cons.injEq] at h
    rw [hf a b h.1, map_inj hf h.2]
theorem dat_tt (l : List (Int × Int)) (n : Nat) : (D.tup (l.map tD)).dat (n + 2) = true := by
  simp only [D.dat, List.all_map, List.all_eq_true]
  intro t _
  simp [tD, D.dat]
theorem pl_tt (l : List (Int × Int)) : (D.tup (l.map tD)).pl = true := pls_map tD l fun t _ => rfl
theorem eq_w {ca : Nat → Addr} {cR : Addr} {p q : Int} {l l' : List (Int × Int)} : G_Rule_eq ca cR [ruD cR p l, ruD cR q l'] = some (.val (.bl (decide (p = q ∧ l = l'))), []) := by
  apply wO.eq
  unfold G_Rule_eq
  refine w_runE (env := ?e) rfl ?he ?_
  case he => walk_at "gn"
  unfold f_Rule_eq
  walk_at "gs"
  refine s_app (d := .bl true) rfl (by simp [gIsi, ruD]) ?_
  walk_at "gs"
  refine s_op1 (da := ruD cR p l) rfl gFld_prime ?_
  walk_at "gs"
  refine s_op1 (da := ruD cR q l') rfl gFld_prime ?_
  walk_at "gs"
  refine s_twoD (fun h => ?_) (fun h => ?_)
  · walk_at "gs"
    refine s_op1 (da := ruD cR p l) rfl gFld_terms ?_
    walk_at "gs"
    refine s_op1 (da := ruD cR q l') rfl gFld_terms ?_
    walk_at "gs"
    obtain ⟨x, hx, hx2⟩ := gEqA_pl (pl_tt l) (pl_tt l') (dat_tt l 18) (dat_tt l' 18)
    refine s_op2 rfl rfl hx ?_
    walk_at "gs"
    refine ⟨?_, rfl⟩
    by_cases z : l = l'
    · have : x = true := hx2.mpr (by rw [z])
      subst this
      rw [decide_eq_true (show p = q ∧ l = l' from ⟨h, z⟩)]
    · cases x with
      | true => exact absurd (map_inj (fun a b => tD_inj) (by simpa using hx2.mp rfl)) z
      | false => rw [decide_eq_false (fun y => z y.2)]
  · walk_at "gs"
    refine ⟨?_, rfl⟩
    rw [decide_eq_false (fun y => h y.1)]
theorem imms_tD : ∀ l : List (Int × Int), D.imms (l.map tD) = true
  | [] => rfl
  | t :: l => by rw [List.map_cons]; simp only [D.imms, D.imm, tD, imms_tD l, Bool.and_true]
structure Keep (p : Prop) : Prop where
  out : p
theorem s_twoM {b : Bool} {t f : Prop} (M : Prop) (m : M) (h1 : b = true → Keep M → t) (h2 : b = false → Keep M → f) : STwo b t f := ⟨fun e => h1 e ⟨m⟩, fun e => h2 e ⟨m⟩⟩
theorem terms_w {ca : Nat → Addr} {cR : Addr} {p : Int} {l : List (Int × Int)} : G_Rule_terms ca cR [ruD cR p l] = some (.val (.lst (l.map tD)), []) := by
  apply wO.eq
  unfold G_Rule_terms
  refine w_runE (env := ?e) rfl ?he ?_
  case he => walk_at "gn"
  unfold f_Rule_terms
  walk_at "gs"
  refine s_op1 (da := ruD cR p l) rfl gFld_terms ?_
  walk_at "gs"
  exact ⟨rfl, rfl⟩
theorem prime_w {ca : Nat → Addr} {cR : Addr} {p : Int} {l : List (Int × Int)} : G_Rule_prime ca cR [ruD cR p l] = some (.val (.int p), []) := by
  apply wO.eq
  unfold G_Rule_prime
  refine w_runE (env := ?e) rfl ?he ?_
  case he => walk_at "gn"
  unfold f_Rule_prime
  walk_at "gs"
  refine s_op1 (da := ruD cR p l) rfl gFld_prime ?_
  walk_at "gs"
  exact ⟨rfl, rfl⟩
end K04
/-! B04 -/
set_option linter.all false
set_option maxRecDepth 100000
set_option maxHeartbeats 0


namespace K04
open PySem L2 GR
theorem lg2 {a b : Int} (h1 : a.natAbs < 100) (h2 : b.natAbs < 100) : a.natAbs.log2 + b.natAbs.log2 < 1000000 := by
  have := log_lt (a := a) (k := 100) (Nat.lt_of_lt_of_le h1 (by decide)) (by decide)
  have := log_lt (a := b) (k := 100) (Nat.lt_of_lt_of_le h2 (by decide)) (by decide)
  omega
theorem imms_pD : ∀ l : List (Int × Int), D.imms (l.map pD) = true
  | [] => rfl
  | t :: l => by rw [List.map_cons]; simp only [D.imms, D.imm, pD, imms_pD l, Bool.and_true]
/-- what a cell gives -/
def evs (ts : PL) (e : Int × Int) : PL := ts.map fun t => (e.1 + t.2, t.1 * e.2)
def evAll (ts row : PL) : PL := row.flatMap (evs ts)
theorem grown_w {ca : Nat → Addr} {cR : Addr} {p : Int} {ts row : PL} (hp : p = 2 ∨ p = 3 ∨ p = 5) (ht : ∀ t ∈ ts, 1 ≤ t.1 ∧ t.1 < p) (hl : ts.length ≤ 5) (hr : ∀ e ∈ row, 1 ≤ e.2 ∧ e.2 < p) (hw : row.length ≤ 100) (h64 : ((evAll ts row).foldl addE []).length < 64) :
    G_grown_once ca cR [.int p, .tup (ts.map tD), .lst (row.map pD)] = some (.val (.lst ((rowE p ((evAll ts row).foldl addE [])).map pD)), []) := by
  apply wO.eq
  unfold G_grown_once
  refine w_runE (env := ?e) rfl ?he ?_
  case he => walk_at "gn"
  unfold f_grown_once
  walk_at "gs"
  refine w_goFor (fun ds e => ∃ (rest acc : PL) (x4 x6 x7 x8 : Option D), ds = rest.map pD ∧ e = [some (.int p), some (.tup (ts.map tD)), some (.lst (row.map pD)), some (.dK (acc.map entD)), x4, none, x6, x7, x8] ∧
    (evAll ts rest).foldl addE acc = (evAll ts row).foldl addE [] ∧ acc.length + 5 * rest.length ≤ 1000 ∧ ∀ e ∈ rest, 1 ≤ e.2 ∧ e.2 < p) ?hb ?hn _ _ ⟨row, [], none, none, none, none, rfl, rfl, rfl, by simp only [List.length_nil]; omega, hr⟩
  case hb =>
    rintro d ds e ⟨rest, acc, x4, x6, x7, x8, hd, rfl, hf, hb, hr⟩
    cases rest with
    | nil => cases hd
    | cons c rest =>
      cases hd
      have hc := hr c List.mem_cons_self
      refine ⟨_, rfl, ?_⟩
      walk_at "gs"
      refine w_goFor (fun ds e => ∃ (rt acc' : PL) (x6 x7 x8 : Option D), ds = rt.map tD ∧ e = [some (.int p), some (.tup (ts.map tD)), some (.lst (row.map pD)), some (.dK (acc'.map entD)), some (.int c.1), some (.int c.2), x6, x7, x8] ∧
        (evs rt c).foldl addE acc' = (evs ts c).foldl addE acc ∧ acc'.length + rt.length ≤ acc.length + ts.length ∧ ∀ t ∈ rt, 1 ≤ t.1 ∧ t.1 < p) ?hb2 ?hn2 _ _ ⟨ts, acc, x6, x7, x8, rfl, rfl, rfl, Nat.le_refl _, ht⟩
      case hb2 =>
        rintro d ds e ⟨rt, acc', x6, x7, x8, hd, rfl, hf2, hb2, ht⟩
        cases rt with
        | nil => cases hd
        | cons t rt =>
          cases hd
          have htc := ht t List.mem_cons_self
          have lg := lg2 (a := t.1) (b := c.2) (by omega) (by omega)
          simp only [List.length_cons] at hb hb2
          refine ⟨_, rfl, ?_⟩
          walk_at "gs"
          refine s_ix2 rfl (gPut_dict (by omega)) rfl ?_
          refine ⟨rt, addE acc' (c.1 + t.2, t.1 * c.2), some (.int t.1), some (.int t.2), some (.int (c.1 + t.2)), rfl, rfl, hf2, ?_, fun t h => ht t (List.mem_cons_of_mem _ h)⟩
          have hq : (addE acc' (c.1 + t.2, t.1 * c.2)).length ≤ acc'.length + 1 := putP_len acc' _
          omega
      case hn2 =>
        rintro e ⟨rt, acc', x6, x7, x8, hd, rfl, hf2, hb2, _⟩
        cases rt with
        | cons => cases hd
        | nil =>
          simp only [List.length_cons, List.length_nil] at hb hb2
          refine ⟨rest, acc', some (.int c.1), x6, x7, x8, rfl, rfl, ?_, by omega, fun e h => hr e (List.mem_cons_of_mem _ h)⟩
          have e1 : acc' = (evs ts c).foldl addE acc := hf2
          rw [e1, ← hf]
          show _ = ((c :: rest).flatMap (evs ts)).foldl addE acc
          rw [List.flatMap_cons, List.foldl_append]
          rfl
  case hn =>
    rintro e ⟨rest, acc, x4, x6, x7, x8, hd, rfl, hf, hb, _⟩
    cases rest with
    | cons => cases hd
    | nil =>
      have hf : acc = (evAll ts row).foldl addE [] := hf
      obtain ⟨nd, _, _⟩ := addE_all (evAll ts row) [] List.nodup_nil
      rw [← hf] at nd h64 ⊢
      walk_at "gs"
      refine s_app rfl (gSorted_keys h64) ?_
      walk_at "gs"
      have hpp : 0 < p := by omega
      have key : ∀ x ∈ sortI (keysP acc), gIx (.dK (acc.map entD)) (.int x) = some (.int (getP acc x 0)) := fun x hx => by
        obtain ⟨v, hv⟩ := mem_key.mp ((sortI_perm _).mem_iff.mp hx)
        have e1 := gIx_dict (find_mem nd hv)
        rw [e1, getP_mem nd hv 0]
      refine ⟨_, _, goComp_f D.int (fun x => decide (getP acc x 0 % p ≠ 0)) (fun x => pD (x, getP acc x 0 % p)) (sortI (keysP acc)) (fun x hx => ⟨_, [some (.int p), some (.tup (ts.map tD)), some (.lst (row.map pD)), some (.dK (acc.map entD)), some (.int x), none, x6, x7, x8], rfl, ?_, fun _ => rfl, fun _ => ⟨[some (.int p), some (.tup (ts.map tD)), some (.lst (row.map pD)), some (.dK (acc.map entD)), some (.int x), none, x6, x7, x8], ?_, rfl⟩⟩), ?_, ?_⟩
      · apply wO.eq
        walk_at "gs"
        refine s_op2 rfl rfl (key x hx) ?_
        walk_at "gs"
        refine ⟨?_, rfl⟩
        by_cases z : getP acc x 0 % p = 0
        · simp [PyData.eqv, D.py, z]
        · simp [PyData.eqv, D.py, z]
      · apply wO.eq
        walk_at "gs"
        refine s_op2 rfl rfl (key x hx) ?_
        walk_at "gs"
        exact ⟨rfl, rfl⟩
      · rw [List.length_map]
        have h1 := List.length_filter_le (fun x => decide (getP acc x 0 % p ≠ 0)) (sortI (keysP acc))
        have h2 := (sortI_perm (keysP acc)).length_eq
        unfold keysP at h1 h2
        rw [List.length_map] at h2
        unfold keysP
        omega
      have er : ((sortI (keysP acc)).filter fun x => decide (getP acc x 0 % p ≠ 0)).map (fun x => pD (x, getP acc x 0 % p)) = (rowE p acc).map pD := by
        unfold rowE
        rw [List.map_map]; rfl
      rw [er]
      refine s_borD (e2 := ?e2x) (imms_pD _) ?h2x ?_
      case h2x => walk_at "gn"
      walk_at "gs"
      exact ⟨rfl, rfl⟩
/-- check_row lets it pass -/
theorem check_w {ca : Nat → Addr} {cR : Addr} {p : Int} {row : PL} (ha : row.Pairwise fun a b => a.1 < b.1) (hr : ∀ e ∈ row, 1 ≤ e.2 ∧ e.2 < p) : G_check_row ca cR [.int p, .lst (row.map pD)] = some (.val .non, []) := by
  apply wO.eq
  unfold G_check_row
  refine w_runE (env := ?e) rfl ?he ?_
  case he => walk_at "gn"
  unfold f_check_row
  walk_at "gs"
  refine w_goFor (fun ds e => ∃ (rest : PL) (n b : Int), ds = rest.map pD ∧ e = [some (.int p), some (.lst (row.map pD)), some (.int n), some (.int b), none, none] ∧ rest.Pairwise (fun a b => a.1 < b.1) ∧ (∀ e ∈ rest, 1 ≤ e.2 ∧ e.2 < p) ∧ 0 ≤ n ∧ (0 < n → ∀ e ∈ rest, b < e.1)) ?hb ?hn _ _ ⟨row, 0, 0, rfl, rfl, ha, hr, Int.le_refl _, fun h => absurd h (by decide)⟩
  case hb =>
    rintro d ds e ⟨rest, n, b, hd, rfl, ha, hr, hn, hbl⟩
    cases rest with
    | nil => cases hd
    | cons c rest =>
      cases hd
      have hc := hr c List.mem_cons_self
      rw [List.pairwise_cons] at ha
      refine ⟨_, rfl, ?_⟩
      walk_at "gs"
      refine s_twoDt (by omega) ?_
      walk_at "gs"
      refine s_twoDt hc.2 ?_
      walk_at "gs"
      have fin : ∃ (rest_1 : PL) (n_1 b_1 : Int), rest.map pD = rest_1.map pD ∧ [some (D.int p), some (D.lst (row.map pD)), some (D.int (n + 1)), some (D.int c.1), none, none] = [some (D.int p), some (D.lst (row.map pD)), some (D.int n_1), some (D.int b_1), none, none] ∧ rest_1.Pairwise (fun a b : Int × Int => a.1 < b.1) ∧ (∀ e ∈ rest_1, 1 ≤ e.2 ∧ e.2 < p) ∧ 0 ≤ n_1 ∧ (0 < n_1 → ∀ e ∈ rest_1, b_1 < e.1) :=
        ⟨rest, n + 1, c.1, rfl, rfl, ha.2, fun e h => hr e (List.mem_cons_of_mem _ h), by omega, fun _ e h => ha.1 e h⟩
      refine s_twoD (fun h => ?_) (fun h => ?_)
      · walk_at "gs"
        refine s_twoDf (by have := hbl h c List.mem_cons_self; omega) ?_
        walk_at "gs"
        exact fin
      · walk_at "gs"
        exact fin
  case hn =>
    rintro e ⟨rest, n, b, hd, rfl, _⟩
    walk_at "gs"
    exact ⟨rfl, rfl⟩
end K04
/-! C04 -/
set_option linter.all false
set_option maxRecDepth 100000
set_option maxHeartbeats 0


namespace K04
open PySem L2 GR
def nxt (p : Int) (ts row : PL) : PL := rowE p ((evAll ts row).foldl addE [])
theorem next_w {ca : Nat → Addr} {cR : Addr} {p : Int} {ts row : PL} (hp : p = 2 ∨ p = 3 ∨ p = 5) (ht : ∀ t ∈ ts, 1 ≤ t.1 ∧ t.1 < p) (hl : ts.length ≤ 5) (ha : row.Pairwise fun a b => a.1 < b.1) (hr : ∀ e ∈ row, 1 ≤ e.2 ∧ e.2 < p) (hw : row.length ≤ 100) (h64 : ((evAll ts row).foldl addE []).length < 64) :
    G_Rule_next_row ca cR [ruD cR p ts, .lst (row.map pD)] = some (.val (.lst ((nxt p ts row).map pD)), []) := by
  apply wO.eq
  unfold G_Rule_next_row
  refine w_runE (env := ?e) rfl ?he ?_
  case he => walk_at "gn"
  unfold f_Rule_next_row
  walk_at "gs"
  refine s_op1 (da := ruD cR p ts) rfl gFld_prime ?_
  walk_at "gs"
  refine GF_w (check_w ha hr) ?_
  refine s_ok rfl ?_
  walk_at "gs"
  refine s_op1 (da := ruD cR p ts) rfl gFld_prime ?_
  walk_at "gs"
  refine s_op1 (da := ruD cR p ts) rfl gFld_terms ?_
  walk_at "gs"
  refine GF_w (grown_w hp ht hl hr hw h64) ?_
  refine s_ok rfl ?_
  walk_at "gs"
  exact ⟨rfl, rfl⟩
def ng (t : Int × Int) : Int × Int := (t.1, -t.2)
theorem mirrored_w {ca : Nat → Addr} {cR : Addr} {p : Int} {l : PL} (h : Lg p (l.map ng)) : G_Rule_mirrored ca cR [ruD cR p l] = some (.val (ruD cR p (can (l.map ng))), []) := by
  have hl := h.len
  rw [List.length_map] at hl
  apply wO.eq
  unfold G_Rule_mirrored
  refine w_runE (env := ?e) rfl ?he ?_
  case he => walk_at "gn"
  unfold f_Rule_mirrored
  walk_at "gs"
  refine s_op1 (da := ruD cR p l) rfl gFld_prime ?_
  walk_at "gs"
  refine s_op1 (da := ruD cR p l) rfl gFld_terms ?_
  walk_at "gs"
  refine ⟨_, _, goComp_y tD (fun t => tD (ng t)) l (fun t _ => ⟨_, _, rfl, rfl, rfl⟩), by rw [List.length_map]; omega, ?_⟩
  rw [show l.map (fun t => tD (ng t)) = (l.map ng).map tD by rw [List.map_map]; rfl]
  walk_at "gs"
  refine GF_w (G_initL h) ?_
  refine s_made rfl ?_
  walk_at "gs"
  exact ⟨rfl, rfl⟩
def stepT (p : Int) (ts T : PL) : PL := dictM ((evAll ts T).foldl (addM p) [])
theorem keys_ent2 (acc : PL) : (acc.map entD).map (fun kv => keyD kv.1) = (keysP acc).map D.int := by
  unfold keysP
  rw [List.map_map, List.map_map]; rfl
theorem step_w {ca : Nat → Addr} {cR : Addr} {p : Int} {ls T : PL} (hp : p = 2 ∨ p = 3 ∨ p = 5) (ht : ∀ t ∈ ls, 1 ≤ t.1 ∧ t.1 < p) (hl : ls.length ≤ 5) (nd : (keysP T).Nodup) (hr : ∀ e ∈ T, 1 ≤ e.2 ∧ e.2 < p) (hw : T.length ≤ 100) :
    G_law_step ca cR [.tup [.int p, .lst (ls.map tD)], .dK (T.map entD)] = some (.val (.dK ((stepT p ls T).map entD)), []) := by
  have hpp : 0 < p := by omega
  apply wO.eq
  unfold G_law_step
  refine w_runE (env := ?e) rfl ?he ?_
  case he => walk_at "gn"
  unfold f_law_step
  walk_at "gs"
  refine w_forK (l := T) rfl ?_
  refine w_goFor (fun ds e => ∃ (rest acc : PL) (x3 x4 x5 : Option D), ds = (keysP rest).map D.int ∧ e = [some (.tup [.int p, .lst (ls.map tD)]), some (.dK (T.map entD)), some (.dK (acc.map entD)), x3, x4, x5] ∧
    (evAll ls rest).foldl (addM p) acc = (evAll ls T).foldl (addM p) [] ∧ acc.length + 5 * rest.length ≤ 1000 ∧ ∀ e ∈ rest, e ∈ T) ?hb ?hn _ _ ⟨T, [], none, none, none, rfl, rfl, rfl, by simp only [List.length_nil]; omega, fun e h => h⟩
  case hb =>
    rintro d ds e ⟨rest, acc, x3, x4, x5, hd, rfl, hf, hb, hm⟩
    cases rest with
    | nil => cases hd
    | cons c rest =>
      cases hd
      have hcm := hm c List.mem_cons_self
      have hc := hr c hcm
      refine ⟨_, rfl, ?_⟩
      walk_at "gs"
      refine w_goFor (fun ds e => ∃ (rt acc' : PL) (x4 x5 : Option D), ds = rt.map tD ∧ e = [some (.tup [.int p, .lst (ls.map tD)]), some (.dK (T.map entD)), some (.dK (acc'.map entD)), some (.int c.1), x4, x5] ∧
        (evs rt c).foldl (addM p) acc' = (evs ls c).foldl (addM p) acc ∧ acc'.length + rt.length ≤ acc.length + ls.length ∧ ∀ t ∈ rt, 1 ≤ t.1 ∧ t.1 < p) ?hb2 ?hn2 _ _ ⟨ls, acc, x4, x5, rfl, rfl, rfl, Nat.le_refl _, ht⟩
      case hb2 =>
        rintro d ds e ⟨rt, acc', x4, x5, hd, rfl, hf2, hb2, ht⟩
        cases rt with
        | nil => cases hd
        | cons t rt =>
          cases hd
          have htc := ht t List.mem_cons_self
          have lg := lg2 (a := t.1) (b := c.2) (by omega) (by omega)
          simp only [List.length_cons] at hb hb2
          refine ⟨_, rfl, ?_⟩
          walk_at "gs"
          refine s_op2 rfl rfl (gIx_dict (find_mem nd hcm)) ?_
          walk_at "gs"
          refine s_ix2 rfl (gPut_dict (by omega)) rfl ?_
          refine ⟨rt, addM p acc' (c.1 + t.2, t.1 * c.2), some (.int t.1), some (.int t.2), rfl, rfl, hf2, ?_, fun t h => ht t (List.mem_cons_of_mem _ h)⟩
          have hq : (addM p acc' (c.1 + t.2, t.1 * c.2)).length ≤ acc'.length + 1 := putP_len acc' _
          omega
      case hn2 =>
        rintro e ⟨rt, acc', x4, x5, hd, rfl, hf2, hb2, _⟩
        cases rt with
        | cons => cases hd
        | nil =>
          simp only [List.length_cons, List.length_nil] at hb hb2
          refine ⟨rest, acc', some (.int c.1), x4, x5, rfl, rfl, ?_, by omega, fun e h => hm e (List.mem_cons_of_mem _ h)⟩
          have e1 : acc' = (evs ls c).foldl (addM p) acc := hf2
          rw [e1, ← hf]
          show _ = ((c :: rest).flatMap (evs ls)).foldl (addM p) acc
          rw [List.flatMap_cons, List.foldl_append]
          rfl
  case hn =>
    rintro e ⟨rest, acc, x3, x4, x5, hd, rfl, hf, hb, _⟩
    cases rest with
    | cons => cases hd
    | nil =>
      have hf : acc = (evAll ls T).foldl (addM p) [] := hf
      obtain ⟨nd2, _⟩ := addM_all p hpp (evAll ls T) [] List.nodup_nil (fun _ h => nomatch h)
      obtain ⟨nd3, _⟩ := dictM_can hpp (ev := evAll ls T)
      unfold stepT
      rw [← hf] at nd2 nd3 ⊢
      refine ⟨rfl, ?_⟩
      simp only [List.length_nil] at hb
      walk_at "gs"
      rw [keys_ent2]
      have key : ∀ x ∈ keysP acc, gIx (.dK (acc.map entD)) (.int x) = some (.int (getP acc x 0)) := fun x hx => by
        obtain ⟨v, hv⟩ := mem_key.mp hx
        have e1 := gIx_dict (find_mem nd2 hv)
        rw [e1, getP_mem nd2 hv 0]
      refine ⟨_, _, goComp_f D.int (fun x => decide (getP acc x 0 ≠ 0)) (fun x => pD (x, getP acc x 0)) (keysP acc) (fun x hx => ⟨_, [some (.tup [.int p, .lst (ls.map tD)]), some (.dK (T.map entD)), some (.dK (acc.map entD)), some (.int x), x4, x5], rfl, ?_, fun _ => rfl, fun _ => ⟨[some (.tup [.int p, .lst (ls.map tD)]), some (.dK (T.map entD)), some (.dK (acc.map entD)), some (.int x), x4, x5], ?_, rfl⟩⟩), ?_, ?_⟩
      · apply wO.eq
        walk_at "gs"
        refine s_op2 rfl rfl (key x hx) ?_
        walk_at "gs"
        refine ⟨?_, rfl⟩
        by_cases z : getP acc x 0 = 0
        · simp [PyData.eqv, D.py, z]
        · simp [PyData.eqv, D.py, z]
      · apply wO.eq
        walk_at "gs"
        refine s_op2 rfl rfl (key x hx) ?_
        walk_at "gs"
        exact ⟨rfl, rfl⟩
      · rw [List.length_map]
        have h1 := List.length_filter_le (fun x => decide (getP acc x 0 ≠ 0)) (keysP acc)
        have h2 : (keysP acc).length = acc.length := List.length_map ..
        omega
      have er : ((keysP acc).filter fun x => decide (getP acc x 0 ≠ 0)).map (fun x => pD (x, getP acc x 0)) = (dictM acc).map pD := by
        unfold dictM
        rw [List.map_map]; rfl
      rw [er]
      refine s_borD (e2 := ?e2x) (imms_pD _) ?h2x ?_
      case h2x => walk_at "gn"
      walk_at "gs"
      refine s_app rfl (gDict2_pairs _) ?_
      have em : mergeP (dictM acc) = dictM acc := merge_nodup (dictM acc) [] nd3
      rw [em]
      walk_at "gs"
      exact ⟨rfl, rfl⟩
def ngP (e : Int × Int) : Int × Int := (0 - e.1, e.2)
theorem turned_w {ca : Nat → Addr} {cR : Addr} {T : PL} (nd : (keysP T).Nodup) (hw : T.length ≤ 100) : G_law_turned ca cR [.dK (T.map entD)] = some (.val (.lst ((sortP (T.map ngP)).map pD)), []) := by
  apply wO.eq
  unfold G_law_turned
  refine w_runE (env := ?e) rfl ?he ?_
  case he => walk_at "gn"
  unfold f_law_turned
  walk_at "gs"
  rw [keys_ent2]
  refine ⟨_, _, goComp_y D.int (fun x => pD (0 - x, getP T x 0)) (keysP T) (fun x hx => ⟨_, [some (.dK (T.map entD)), some (.int x)], rfl, ?_, rfl⟩), ?_, ?_⟩
  · apply wO.eq
    walk_at "gs"
    obtain ⟨v, hv⟩ := mem_key.mp hx
    have e1 := gIx_dict (find_mem nd hv)
    have e2 := getP_mem nd hv 0
    simp only at e1 e2
    rw [e2]
    refine s_op2 rfl rfl e1 ?_
    walk_at "gs"
    exact ⟨rfl, rfl⟩
  · rw [List.length_map]
    have h2 : (keysP T).length = T.length := List.length_map ..
    omega
  have er : (keysP T).map (fun x => pD (0 - x, getP T x 0)) = (T.map ngP).map pD := by
    unfold keysP
    rw [List.map_map, List.map_map]
    apply List.map_congr_left
    intro e he
    simp only [Function.comp, ngP, getP_mem nd he 0]
  rw [er]
  walk_at "gs"
  refine s_app rfl gSorted_pairs ?_
  walk_at "gs"
  exact ⟨rfl, rfl⟩
end K04
/-! F04 -/
set_option linter.all false
set_option maxRecDepth 100000
set_option maxHeartbeats 0


namespace K04
open PySem L2 GR
def Tn (p : Int) (ls row : PL) : Nat → PL
  | 0 => row
  | n + 1 => stepT p ls (Tn p ls row n)
structure Tk (p : Int) (T : PL) : Prop where
  nd : (keysP T).Nodup
  val : ∀ e ∈ T, 1 ≤ e.2 ∧ e.2 < p
  len : T.length ≤ 100
theorem gApp_ok {xs : List D} {d : D} (h : xs.length < 16777216) : gAppend (.lst xs) [d] = some (.non, .lst (xs ++ [d])) := if_pos h
theorem mem_put {l : PL} {k v : Int} {e : Int × Int} (h : e ∈ putP l (k, v)) : e = (k, v) ∨ e ∈ l := by
  unfold putP at h
  split at h
  · obtain ⟨y, hy, rfl⟩ := List.mem_map.mp h
    split
    · rename_i z; exact .inl (Prod.ext z rfl)
    · exact .inr hy
  · rcases List.mem_append.mp h with h | h
    · exact .inr h
    · exact .inl (List.mem_singleton.mp h)
/-- a drawn row -/
structure Rw (p far : Int) (l : PL) : Prop where
  asc : l.Pairwise fun a b => a.1 < b.1
  val : ∀ e ∈ l, 1 ≤ e.2 ∧ e.2 < p
  len : l.length ≤ 13
  near : ∃ lo : Int, -far - 10 ≤ lo ∧ lo ≤ far + 10 ∧ ∀ e ∈ l, lo ≤ e.1 ∧ e.1 ≤ lo + 40
theorem row_w {ca : Nat → Addr} {cR : Addr} {n : Nat} {a b c p far : Int} {ld : D} {P : RO → List D → Prop} (hp : Pl n b c) (hn : n + 60 < 2 ^ 100) (hpr : p = 2 ∨ p = 3 ∨ p = 5) (f0 : 0 ≤ far) (f1 : far ≤ 10 ^ 29)
    (k : ∀ l a' b' c', Rw p far l → Pl (n + 50) b' c' → P (.val (.lst (l.map pD))) [.lst [.int a', .int b', .int c']]) : wO (G_law_row ca cR [.lst [.int a, .int b, .int c], .tup [.int p, ld], .int 12, .int far]) P := by
  have hn : n + 60 < 1267650600228229401496703205376 := hn
  have big : ∀ m, m < n + 60 → m < 2 ^ 100 := fun m hm => Nat.lt_trans hm hn
  have f1 : far ≤ 100000000000000000000000000000 := f1
  have lgf : (2 : Int).natAbs.log2 + far.natAbs.log2 < 1000000 := by
    have := log_lt (a := far) (k := 128) (by omega) (by decide)
    have : (2 : Int).natAbs.log2 = 1 := by decide
    omega
  unfold G_law_row
  refine w_runE (env := ?e) rfl ?he ?_
  case he => walk_at "gn"
  unfold f_law_row
  walk_at "gs"
  refine draw_w hp (big _ (by omega)) (by decide) (by decide) fun r1 a b c h0 h1 hp => ?_
  walk_at "gs"
  refine draw_w hp (big _ (by omega)) (by omega) (by omega) fun r2 a b c h2 h3 hp => ?_
  walk_at "gs"
  refine draw_w hp (big _ (by omega)) (by decide) (by decide) fun r3 a b c h4 h5 hp => ?_
  walk_at "gs"
  refine s_ixA rfl rfl h4 h5 fun d hd => ?_
  obtain ⟨lo, rfl, hlo⟩ : ∃ lo : Int, d = .int lo ∧ -far - 10 ≤ lo ∧ lo ≤ far + 10 := by
    simp only [List.mem_cons, List.not_mem_nil, or_false] at hd
    rcases hd with rfl | rfl | rfl <;> exact ⟨_, rfl, by omega, by omega⟩
  clear hd
  walk_at "gs"
  refine draw_w hp (big _ (by omega)) (by decide) (by decide) fun r4 a b c h6 h7 hp => ?_
  walk_at "gs"
  refine draw_w hp (big _ (by omega)) (by decide) (by decide) fun r5 a b c h8 h9 hp => ?_
  walk_at "gs"
  refine draw_w hp (big _ (by omega)) (by decide) (by decide) fun r6 a b c g0 g1 hp => ?_
  walk_at "gs"
  refine s_ixA rfl rfl g0 g1 fun d hd => ?_
  obtain ⟨w, rfl, hw⟩ : ∃ w : Int, d = .int w ∧ 0 ≤ w ∧ w ≤ 40 := by
    simp only [List.mem_cons, List.not_mem_nil, or_false] at hd
    rcases hd with rfl | rfl | rfl <;> exact ⟨_, rfl, by omega, by omega⟩
  clear hd
  walk_at "gs"
  refine draw_w hp (big _ (by omega)) (by omega) (by omega) fun v a b c g2 g3 hp => ?_
  walk_at "gs"
  refine draw_w hp (big _ (by omega)) (by decide) (by decide) fun m a b c m0 m1 hp => ?_
  walk_at "gs"
  refine w_goRng (fun s e => ∃ (acc : PL) (a b c : Int), e = [some (.lst [.int a, .int b, .int c]), some (.tup [.int p, ld]), some (.int 12), some (.int far), some (.int lo), some (.int w), some (.dK (acc.map entD)), none, none] ∧
    (keysP acc).Nodup ∧ acc.length ≤ s + 1 ∧ (∀ e ∈ acc, (lo ≤ e.1 ∧ e.1 ≤ lo + 40) ∧ 1 ≤ e.2 ∧ e.2 < p) ∧ Pl (n + 8 + 3 * s) b c) ?_ ?_ ?_
  · refine ⟨[(lo, 1 + v)], a, b, c, rfl, by simp [keysP], by simp, fun e he => ?_, hp.mono (by omega)⟩
    rw [List.mem_singleton] at he
    rw [he]
    exact ⟨⟨by show lo ≤ lo; omega, by show lo ≤ lo + 40; omega⟩, by show 1 ≤ 1 + v; omega, by show 1 + v < p; omega⟩
  · rintro s e hs ⟨acc, a, b, c, rfl, nd, hl, hv, hp⟩
    have hs2 : s ≤ 11 := by omega
    refine ⟨_, rfl, ?_⟩
    walk_at "gs"
    refine draw_w hp (big _ (by omega)) (by omega) (by omega) fun d1 a b c j0 j1 hp => ?_
    walk_at "gs"
    refine draw_w hp (big _ (by omega)) (by decide) (by decide) fun d2 a b c j2 j3 hp => ?_
    walk_at "gs"
    refine s_ixA rfl rfl j2 j3 fun d hd => ?_
    obtain ⟨w2, rfl, hw2⟩ : ∃ w2 : Int, d = .int w2 ∧ 0 ≤ w2 ∧ w2 ≤ 40 := by
      simp only [List.mem_cons, List.not_mem_nil, or_false] at hd
      rcases hd with rfl | rfl <;> exact ⟨_, rfl, by omega, by omega⟩
    clear hd
    walk_at "gs"
    refine draw_w hp (big _ (by omega)) (by omega) (by omega) fun v2 a b c j4 j5 hp => ?_
    walk_at "gs"
    refine s_ix2 rfl (gPut_dict (by omega)) rfl ?_
    refine ⟨putP acc (lo + w2, 1 + v2), a, b, c, rfl, nodup_put nd, ?_, fun e he => ?_, hp.mono (by omega)⟩
    · have := putP_len acc (lo + w2, 1 + v2)
      omega
    · rcases mem_put he with rfl | he
      · exact ⟨⟨by show lo ≤ lo + w2; omega, by show lo + w2 ≤ lo + 40; omega⟩, by show 1 ≤ 1 + v2; omega, by show 1 + v2 < p; omega⟩
      · exact hv e he
  · rintro e ⟨acc, a, b, c, rfl, nd, hl, hv, hp⟩
    have hs2 : m.toNat ≤ 11 := by omega
    walk_at "gs"
    refine s_op1 rfl (gSortIt_ent acc) ?_
    walk_at "gs"
    have pm := sortP_perm acc
    exact k (sortP acc) a b c ⟨sortP_asc nd, fun e he => (hv e (pm.mem_iff.mp he)).2, by rw [pm.length_eq]; omega, lo, hlo.1, hlo.2, fun e he => (hv e (pm.mem_iff.mp he)).1⟩ (hp.mono (by omega))
theorem walk_w {ca : Nat → Addr} {cR : Addr} {p : Int} {ls row : PL} (hp : p = 2 ∨ p = 3 ∨ p = 5) (ht : ∀ t ∈ ls, 1 ≤ t.1 ∧ t.1 < p) (hl : ls.length ≤ 5) (hT : ∀ i, i ≤ 6 → Tk p (Tn p ls row i)) :
    G_law_walk ca cR [.tup [.int p, .lst (ls.map tD)], .lst (row.map pD), .int 6] = some (.val (.lst ((List.range' 0 7).map fun i => dictP (Tn p ls row i))), []) := by
  apply wO.eq
  unfold G_law_walk
  refine w_runE (env := ?e) rfl ?he ?_
  case he => walk_at "gn"
  unfold f_law_walk
  walk_at "gs"
  refine s_app rfl (gDict2_pairs _) ?_
  have em : mergeP row = row := merge_nodup row [] (hT 0 (by omega)).nd
  rw [em]
  walk_at "gs"
  refine w_goRng (fun s e => e = [some (.tup [.int p, .lst (ls.map tD)]), some (.lst (row.map pD)), some (.int 6), some (.lst ((List.range' 0 (s + 1)).map fun i => dictP (Tn p ls row i))), none]) rfl ?_ ?_
  · rintro s e hs rfl
    have hs : s < 6 := hs
    have t := hT s (by omega)
    refine ⟨_, rfl, ?_⟩
    walk_at "gs"
    have hlen : ((List.range' 0 (s + 1)).map fun i => dictP (Tn p ls row i)).length = s + 1 := by rw [List.length_map, List.length_range']
    refine s_ixG rfl rfl (by rw [hlen]; omega) (by rw [hlen]; omega) fun j d hj hd => ?_
    have ej : j = s := by
      rw [hlen] at hj
      omega
    subst ej
    have ed : d = dictP (Tn p ls row j) := by
      rw [List.getElem?_map, List.getElem?_range' (by omega)] at hd
      simpa using hd.symm
    subst ed
    walk_at "gs"
    refine GF_w (step_w hp ht hl t.nd t.val t.len) ?_
    refine s_ok rfl ?_
    walk_at "gs"
    have e2 : (List.range' 0 (j + 1)).map (fun i => dictP (Tn p ls row i)) ++ [dictP (Tn p ls row (j + 1))] = (List.range' 0 (j + 1 + 1)).map fun i => dictP (Tn p ls row i) := by
      conv => rhs; rw [List.range'_1_concat, List.map_append]
      congr 1
      simp
    rw [← e2]
    rfl
  · rintro e rfl
    walk_at "gs"
    exact ⟨rfl, rfl⟩
end K04
/-! G04 -/
set_option linter.all false
set_option maxRecDepth 100000
set_option maxHeartbeats 0
namespace K04
open PySem L2 GR
theorem nodup_bound : ∀ (n : Nat) (l : List Int) (a : Int), l.Nodup → (∀ x ∈ l, a ≤ x ∧ x < a + n) → l.length ≤ n
  | 0, [], _, _, _ => Nat.le_refl _
  | 0, x :: l, a, _, h => by
    have := h x List.mem_cons_self
    omega
  | n + 1, l, a, nd, h => by
    by_cases m : a + n ∈ l
    · have := nodup_bound n (l.erase (a + n)) a (nd.erase _) fun x hx => by
        obtain ⟨h1, h2⟩ := nd.mem_erase_iff.mp hx
        have := h x h2
        omega
      rw [List.length_erase_of_mem m] at this
      omega
    · have := nodup_bound n l a nd fun x hx => by
        have := h x hx
        have ne : x ≠ a + n := fun q => m (by rw [← q]; exact hx)
        omega
      omega
theorem keys_ev {ts row : PL} {x : Int} : x ∈ keysP (evAll ts row) ↔ ∃ e ∈ row, ∃ t ∈ ts, x = e.1 + t.2 := by
  unfold keysP evAll evs
  simp only [List.mem_map, List.mem_flatMap]
  constructor
  · rintro ⟨a, ⟨e, he, t, ht, rfl⟩, rfl⟩; exact ⟨e, he, t, ht, rfl⟩
  · rintro ⟨e, he, t, ht, rfl⟩; exact ⟨_, ⟨e, he, t, ht, rfl⟩, rfl⟩
theorem flat_left {α β : Type} {f g : α → List β} (h : ∀ a, (f a).Perm (g a)) : ∀ l : List α, (l.flatMap f).Perm (l.flatMap g)
  | [] => .refl _
  | a :: l => by
    rw [List.flatMap_cons, List.flatMap_cons]
    exact (h a).append (flat_left h l)
theorem ev_perm {ts ts' row row' : PL} (h1 : ts.Perm ts') (h2 : row.Perm row') : (evAll ts row).Perm (evAll ts' row') := by
  unfold evAll
  refine (List.Perm.flatMap_right _ h2).trans ?_
  exact flat_left (fun e => h1.map _) _
/-- with a step more -/
structure St (p : Int) (s : Nat) (T : PL) : Prop where
  nd : (keysP T).Nodup
  val : ∀ e ∈ T, 1 ≤ e.2 ∧ e.2 < p
  near : ∃ lo : Int, -(10 ^ 29) - 100 - 8 * s ≤ lo ∧ lo ≤ 10 ^ 29 + 100 + 8 * s ∧ ∀ e ∈ T, lo ≤ e.1 ∧ e.1 ≤ lo + 16 + 4 * s
theorem St.len {p : Int} {s : Nat} {T : PL} (h : St p s T) (hs : s ≤ 7) : T.length ≤ 50 := by
  obtain ⟨lo, _, _, hl⟩ := h.near
  have := nodup_bound 50 (keysP T) lo h.nd fun x hx => by
    obtain ⟨v, hv⟩ := mem_key.mp hx
    have := hl _ hv
    simp only at this
    omega
  unfold keysP at this
  rwa [List.length_map] at this
/-- where the events of a step are -/
theorem ev_near {p : Int} {s : Nat} {ls ts T row : PL} (hk : Kd p ls) (h : St p s T) (h1 : ts.Perm ls) (h2 : row.Perm T) : ∃ lo : Int, -(10 ^ 29) - 100 - 8 * (s + 1 : Nat) ≤ lo ∧ lo ≤ 10 ^ 29 + 100 + 8 * (s + 1 : Nat) ∧ ∀ x ∈ keysP (evAll ts row), lo ≤ x ∧ x ≤ lo + 16 + 4 * (s + 1 : Nat) := by
  obtain ⟨lo, l1, l2, hl⟩ := h.near
  obtain ⟨mo, w, o1, o2, o3, o4, o5, o6, o7⟩ := hk.off
  have hpr := hk.pr
  have hw : w ≤ 4 := by omega
  refine ⟨lo + mo, by omega, by omega, fun x hx => ?_⟩
  obtain ⟨e, he, t, ht, rfl⟩ := keys_ev.mp hx
  have := hl e (h2.mem_iff.mp he)
  have := o7 t (h1.mem_iff.mp ht)
  omega
theorem few {p : Int} {s : Nat} {ls ts T row : PL} (hk : Kd p ls) (h : St p s T) (h1 : ts.Perm ls) (h2 : row.Perm T) (hs : s ≤ 6) : ((evAll ts row).foldl addE []).length < 64 := by
  obtain ⟨lo, _, _, hl⟩ := ev_near hk h h1 h2
  obtain ⟨nd, _, h3⟩ := addE_all (evAll ts row) [] List.nodup_nil
  have := nodup_bound 60 _ lo nd fun x hx => by
    rcases (h3 x).mp hx with q | q
    · cases q
    · have := hl x q
      omega
  unfold keysP at this
  rw [List.length_map] at this
  omega
theorem St.next {p : Int} {s : Nat} {ls T : PL} (hk : Kd p ls) (h : St p s T) : St p (s + 1) (stepT p ls T) := by
  have hpp : 0 < p := by have := hk.pr; omega
  obtain ⟨nd, cn⟩ := dictM_can hpp (ev := evAll ls T)
  have mem : ∀ e ∈ stepT p ls T, e.2 = evSum (evAll ls T) e.1 % p ∧ evSum (evAll ls T) e.1 % p ≠ 0 := fun e he => (cn.mem e).mp ((sortP_perm _).mem_iff.mpr he)
  refine ⟨nd, fun e he => ?_, ?_⟩
  · obtain ⟨e1, e2⟩ := mem e he
    have b1 := Int.emod_nonneg (evSum (evAll ls T) e.1) (show p ≠ 0 by omega)
    have b2 := Int.emod_lt_of_pos (evSum (evAll ls T) e.1) hpp
    omega
  · obtain ⟨lo, l1, l2, hl⟩ := ev_near hk h (.refl _) (.refl _)
    refine ⟨lo, l1, l2, fun e he => ?_⟩
    refine hl e.1 (Classical.byContradiction fun q => (mem e he).2 ?_)
    rw [evSum_none q]; simp
theorem Kd.perm {p : Int} {ls : PL} (hk : Kd p ls) {ts : PL} (pm : ts.Perm ls) : Lg p ts := ⟨hk.pr, fun z => hk.ne (by rw [z] at pm; exact pm.nil_eq.symm), by rw [pm.length_eq]; exact hk.len, fun t ht => hk.co t (pm.mem_iff.mp ht), ((pm.map Prod.snd).nodup_iff).mpr hk.nd⟩
/-- a step, either way -/
theorem step_same {p : Int} {ls ts T row : PL} (hpp : 0 < p) (h1 : ts.Perm ls) (h2 : row.Perm T) : nxt p ts row = sortP (stepT p ls T) := by
  obtain ⟨nd, cn⟩ := dictM_can hpp (ev := evAll ls T)
  have e : (fun x => evSum (evAll ts row) x % p) = fun x => evSum (evAll ls T) x % p := by
    funext x
    rw [evSum_perm (ev_perm h1 h2)]
  have c2 := rowE_can (p := p) (ev := evAll ts row)
  rw [e] at c2
  exact c2.uniq cn
theorem ngP_inj {a b : Int × Int} (h : ngP a = ngP b) : a = b := by
  unfold ngP at h
  have h1 := congrArg Prod.fst h
  have h2 := congrArg Prod.snd h
  simp only at h1 h2
  exact Prod.ext (by omega) h2
theorem keys_ng {T : PL} (nd : (keysP T).Nodup) : (keysP (T.map ngP)).Nodup := by
  unfold keysP at *
  rw [List.map_map]
  have : T.map (Prod.fst ∘ ngP) = (T.map Prod.fst).map fun x => 0 - x := by rw [List.map_map]; rfl
  rw [this]
  exact List.pairwise_map.mpr (nd.imp fun h => by omega)
theorem can_ng {g : Int → Int} {l : PL} (h : Can g l) (nd : (keysP l).Nodup) : Can (fun x => g (0 - x)) (sortP (l.map ngP)) := by
  refine ⟨sortP_asc (keys_ng nd), fun e => ?_⟩
  rw [(sortP_perm _).mem_iff, List.mem_map]
  constructor
  · rintro ⟨y, hy, rfl⟩
    have := (h.mem y).mp hy
    show y.2 = g (0 - (0 - y.1)) ∧ g (0 - (0 - y.1)) ≠ 0
    rw [show (0 : Int) - (0 - y.1) = y.1 by omega]
    exact this
  · rintro ⟨h1, h2⟩
    exact ⟨(0 - e.1, e.2), (h.mem _).mpr ⟨h1, h2⟩, Prod.ext (by show 0 - (0 - e.1) = e.1; omega) rfl⟩
theorem ev_ng (ls T : PL) : evAll (ls.map ng) (T.map ngP) = (evAll ls T).map ngP := by
  unfold evAll
  rw [List.map_flatMap, List.flatMap_map]
  congr 1
  funext e
  unfold evs
  rw [List.map_map, List.map_map]
  apply List.map_congr_left
  intro t _
  show ((0 - e.1) + -t.2, t.1 * e.2) = (0 - (e.1 + t.2), t.1 * e.2)
  rw [show (0 - e.1) + -t.2 = 0 - (e.1 + t.2) by omega]
theorem evSum_ng (ev : PL) (x : Int) : evSum (ev.map ngP) x = evSum ev (0 - x) := by
  induction ev with
  | nil => rfl
  | cons a ev ih =>
    rw [List.map_cons, evSum_cons, evSum_cons, ih]
    congr 1
    show (if 0 - a.1 = x then a.2 else 0) = if a.1 = 0 - x then a.2 else 0
    by_cases z : a.1 = 0 - x
    · rw [if_pos z, if_pos (by omega)]
    · rw [if_neg z, if_neg (by omega)]
/-- the mirrored rule's step of the mirrored row -/
theorem mirror_same {p : Int} {ls ts T row : PL} (hpp : 0 < p) (h1 : ts.Perm (ls.map ng)) (h2 : row.Perm (T.map ngP)) : nxt p ts row = sortP ((sortP (stepT p ls T)).map ngP) := by
  obtain ⟨nd, cn⟩ := dictM_can hpp (ev := evAll ls T)
  have nd2 : (keysP (sortP (stepT p ls T))).Nodup := (((sortP_perm (stepT p ls T)).map Prod.fst).nodup_iff).mpr nd
  have c1 := can_ng cn nd2
  have e : (fun x => evSum (evAll ts row) x % p) = fun x => evSum (evAll ls T) (0 - x) % p := by
    funext x
    rw [evSum_perm (ev_perm h1 h2), ev_ng, evSum_ng]
  have c2 := rowE_can (p := p) (ev := evAll ts row)
  rw [e] at c2
  exact c2.uniq c1
end K04
/-! R04 -/
set_option linter.all false
set_option maxRecDepth 100000
set_option maxHeartbeats 0


namespace K04
open PySem L2 GR
theorem asc_snd {ls : PL} (nd : (ls.map Prod.snd).Nodup) : (can ls).Pairwise fun a b => a.2 < b.2 := by
  have h1 : (can ls).Pairwise fun a b => a.2 ≤ b.2 := by
    have := List.pairwise_mergeSort (le := fun a b : Int × Int => decide (a.2 ≤ b.2)) (fun a b c h1 h2 => by simp at *; omega) (fun a b => by simp; omega) ls
    exact this.imp fun h => by simpa using h
  have h2 := nodup_ne (((can_perm ls).map Prod.snd).nodup_iff.mpr nd)
  exact (h1.and h2).imp fun h => by omega
theorem nd_ng {l : PL} (nd : (l.map Prod.snd).Nodup) : ((l.map ng).map Prod.snd).Nodup := by
  have : (l.map ng).map Prod.snd = (l.map Prod.snd).map fun x => -x := by rw [List.map_map, List.map_map]; rfl
  rw [this]
  exact List.pairwise_map.mpr (nd.imp fun h => by omega)
theorem Lg.ng {p : Int} {l : PL} (h : Lg p l) : Lg p (l.map K04.ng) := ⟨h.pr, fun z => h.ne (List.map_eq_nil_iff.mp z), by rw [List.length_map]; exact h.len, fun t ht => by
  obtain ⟨y, hy, rfl⟩ := List.mem_map.mp ht
  exact h.co y hy, nd_ng h.nd⟩
theorem Lg.pm {p : Int} {l m : PL} (h : Lg p l) (pm : m.Perm l) : Lg p m := ⟨h.pr, fun z => h.ne (by rw [z] at pm; exact pm.nil_eq.symm), by rw [pm.length_eq]; exact h.len, fun t ht => h.co t (pm.mem_iff.mp ht), ((pm.map Prod.snd).nodup_iff).mpr h.nd⟩
theorem ng_ng (l : PL) : (l.map ng).map ng = l := by
  rw [List.map_map]
  conv => rhs; rw [← List.map_id l]
  exact List.map_congr_left fun x _ => Prod.ext rfl (by show - -x.2 = x.2; omega)
/-- the mirrored terms, told -/
theorem back_terms {ls : PL} (nd : (ls.map Prod.snd).Nodup) : can ((can ls).map ng) = (can ls).reverse.map fun t => (t.1, 0 - t.2) := by
  have e : ((can ls).reverse.map fun t => (t.1, 0 - t.2)) = ((can ls).map ng).reverse := by
    rw [List.map_reverse]
    congr 1
    exact List.map_congr_left fun x _ => Prod.ext rfl (by show 0 - x.2 = -x.2; omega)
  rw [e]
  have ndc : ((can ls).map Prod.snd).Nodup := (((can_perm ls).map Prod.snd).nodup_iff).mpr nd
  refine perm_asc (R := fun a b : Int × Int => a.2 < b.2) (fun a b h1 h2 => by omega) (asc_snd (nd_ng ndc)) ?_ ((can_perm _).trans (List.reverse_perm _).symm)
  rw [List.pairwise_reverse, List.pairwise_map]
  exact (asc_snd nd).imp fun h => by
    show -_ < -_
    omega
theorem back_back {ls : PL} (nd : (ls.map Prod.snd).Nodup) : can ((can ((can ls).map ng)).map ng) = can ls := by
  have ndc : ((can ls).map Prod.snd).Nodup := (((can_perm ls).map Prod.snd).nodup_iff).mpr nd
  have nd2 : ((can ((can ls).map ng)).map Prod.snd).Nodup := (((can_perm _).map Prod.snd).nodup_iff).mpr (nd_ng ndc)
  refine perm_asc (R := fun a b : Int × Int => a.2 < b.2) (fun a b h1 h2 => by omega) (asc_snd (nd_ng nd2)) (asc_snd nd) ?_
  have := ((can_perm ((can ls).map ng)).map ng)
  rw [ng_ng] at this
  exact (can_perm _).trans this
theorem few2 {p : Int} {s : Nat} {ls ts T row : PL} (hk : Kd p ls) (h : St p s T) (h1 : ts.Perm (ls.map ng)) (h2 : row.Perm (T.map ngP)) (hs : s ≤ 6) : ((evAll ts row).foldl addE []).length < 64 := by
  obtain ⟨lo, _, _, hl⟩ := ev_near hk h (.refl _) (.refl _)
  obtain ⟨nd, _, h3⟩ := addE_all (evAll ts row) [] List.nodup_nil
  have := nodup_bound 60 _ (-(lo + 16 + 4 * (s + 1 : Nat))) nd fun x hx => by
    rcases (h3 x).mp hx with q | q
    · cases q
    · obtain ⟨e, he, t, ht, rfl⟩ := keys_ev.mp q
      obtain ⟨e0, he0, rfl⟩ := List.mem_map.mp (h2.mem_iff.mp he)
      obtain ⟨t0, ht0, rfl⟩ := List.mem_map.mp (h1.mem_iff.mp ht)
      have := hl (e0.1 + t0.2) (keys_ev.mpr ⟨e0, he0, t0, ht0, rfl⟩)
      have q1 : (ngP e0).1 = 0 - e0.1 := rfl
      have q2 : (ng t0).2 = -t0.2 := rfl
      omega
  unfold keysP at this
  rw [List.length_map] at this
  omega
theorem dat_pp (l : PL) (n : Nat) : (D.lst (l.map pD)).dat (n + 2) = true := by
  simp only [D.dat, List.all_map, List.all_eq_true]
  intro t _
  simp [pD, D.dat]
theorem pl_pp (l : PL) : (D.lst (l.map pD)).pl = true := pls_map pD l fun t _ => rfl
theorem dat_tl (l : PL) (n : Nat) : (D.lst (l.map tD)).dat (n + 2) = true := by
  simp only [D.dat, List.all_map, List.all_eq_true]
  intro t _
  simp [tD, D.dat]
theorem pl_tl (l : PL) : (D.lst (l.map tD)).pl = true := pls_map tD l fun t _ => rfl
theorem ne_same {d : D} (h1 : d.pl = true) (h2 : d.dat 20 = true) : gNeA d d = some (.bl false) := by
  obtain ⟨x, hx, hx2⟩ := gNeA_pl h1 h1 h2 h2
  cases x with
  | false => exact hx
  | true => exact absurd rfl (hx2.mp rfl)
theorem eq_same {d : D} (h1 : d.pl = true) (h2 : d.dat 20 = true) : gEqA d d = some (.bl true) := by
  obtain ⟨x, hx, hx2⟩ := gEqA_pl h1 h1 h2 h2
  have : x = true := hx2.mpr rfl
  rw [hx, this]
theorem row_repr {l : PL} (hl : l.length ≤ 60) (hs : ∀ e ∈ l, e.1.natAbs < 10 ^ 60 ∧ e.2.natAbs < 10 ^ 60) : ∃ T, gRepr [.lst (l.map pD)] = some (.str T) := by
  refine ⟨_, gRepr_ok rfl (dat_pp l 18) ?_ ?_⟩
  · simp only [D.sm]
    exact sms_map pD l fun e he => by
      obtain ⟨h1, h2⟩ := hs e he
      simp only [pD, D.sm, D.sms, Bool.and_true, Bool.and_eq_true]
      exact ⟨decide_eq_true h1, decide_eq_true h2⟩
  · have : D.caps (l.map pD) ≤ l.length * 131 := caps_map pD l (c := 129) fun t _ => Nat.le_refl _
    simp only [D.cap]
    omega
theorem Tn_st {p : Int} {ls row : PL} (hk : Kd p ls) (h : St p 0 row) : ∀ s, St p s (Tn p ls row s)
  | 0 => h
  | s + 1 => (Tn_st hk h s).next hk
theorem nxt_nil {p : Int} {ts : PL} : nxt p ts [] = [] := by
  unfold nxt rowE
  have : sortI (keysP ((evAll ts []).foldl addE [])) = [] := (sortI_perm []).eq_nil
  rw [this]
  rfl
end K04
/-! U04 -/
set_option linter.all false
set_option maxRecDepth 100000
set_option maxHeartbeats 0


namespace K04
open PySem L2 GR
theorem right_w {ca : Nat → Addr} {cR : Addr} {n : Nat} {a b c : Int} {P : RO → List D → Prop} (hp : Pl n b c) (hn : n + 200 < 2 ^ 100)
    (k : ∀ a' b' c', Pl (n + 100) b' c' → P (.val (.bl true)) [.lst [.int a', .int b', .int c']]) : wO (G_law_right ca cR [.lst [.int a, .int b, .int c]]) P := by
  have hn : n + 200 < 1267650600228229401496703205376 := hn
  have big : ∀ m, m < n + 200 → m < 2 ^ 100 := fun m hm => Nat.lt_trans hm hn
  unfold G_law_right
  refine w_runE (env := ?e) rfl ?he ?_
  case he => walk_at "gn"
  unfold f_law_right
  walk_at "gs"
  refine kind_w hp (big _ (by omega)) fun p ls a b c hk hp => ?_
  have hk1 := hk.lg
  have hpr := hk.pr
  have hpp : 0 < p := by omega
  have hc := hk1.pm (can_perm ls)
  have hB := hc.ng
  have hB2 := hB.pm (can_perm _)
  walk_at "gs"
  refine GF_w (made_w hk1) ?_
  refine s_ok (by simp [callOk, noLent, ruD, D.shallow, D.imms, D.imm, imms_tD]) ?_
  walk_at "gs"
  refine row_w hp (big _ (by omega)) hpr (by decide) (by decide) fun row a b c hrw hp => ?_
  walk_at "gs"
  have hrl := hrw.len
  refine ⟨_, _, goComp_f pD (fun x => decide (x.1 - (row.headD (0, 0)).1 ≤ 16)) pD row (fun x hx => ⟨_, [some (.lst [.int a, .int b, .int c]), some (.tup [.int p, .lst (ls.map tD)]), some (ruD cR p (can ls)), some (.lst (row.map pD)), some (pD x), none, none, none, none, none, none, none], rfl, ?_, fun _ => rfl, fun _ => ⟨_, rfl, rfl⟩⟩), ?_, ?_⟩
  · apply wO.eq
    walk_at "gs"
    refine s_ixN rfl rfl (by decide) (by have := List.length_pos_of_mem hx; omega) fun y hy => ?_
    have ey : y = row.headD (0, 0) := by
      cases row with
      | nil => cases hx
      | cons z r => exact (Option.some.inj hy).symm
    subst ey
    walk_at "gs"
    exact ⟨rfl, rfl⟩
  · rw [List.length_map]
    have := List.length_filter_le (fun x : Int × Int => decide (x.1 - (row.headD (0, 0)).1 ≤ 16)) row
    omega
  have hst : St p 0 (row.filter fun x => decide (x.1 - (row.headD (0, 0)).1 ≤ 16)) := by
    have sub := List.filter_sublist (p := fun x : Int × Int => decide (x.1 - (row.headD (0, 0)).1 ≤ 16)) (l := row)
    refine ⟨?_, fun e he => hrw.val e (sub.subset he), ?_⟩
    · unfold keysP
      exact List.pairwise_map.mpr ((hrw.asc.sublist sub).imp fun h => by omega)
    · obtain ⟨lo, l1, l2, hl⟩ := hrw.near
      cases row with
      | nil => exact ⟨0, by omega, by omega, fun e he => nomatch he⟩
      | cons z r =>
        have hz := hl z List.mem_cons_self
        have e10 : (10 : Int) ^ (29 : Int).toNat = 10 ^ 29 := rfl
        rw [e10] at l1 l2
        refine ⟨z.1, by omega, by omega, fun e he => ?_⟩
        obtain ⟨h1, h2⟩ := List.mem_filter.mp he
        have h2 := of_decide_eq_true h2
        have h2 : e.1 - z.1 ≤ 16 := h2
        have h3 : z.1 ≤ e.1 := by
          rcases List.mem_cons.mp h1 with rfl | h1
          · omega
          · have := (List.pairwise_cons.mp hrw.asc).1 e h1
            omega
        omega
  have hasc : (row.filter fun x => decide (x.1 - (row.headD (0, 0)).1 ≤ 16)).Pairwise fun a b => a.1 < b.1 := hrw.asc.sublist List.filter_sublist
  generalize (row.filter fun x => decide (x.1 - (row.headD (0, 0)).1 ≤ 16)) = r0 at hst hasc
  have es0 : sortP r0 = r0 := (sortP_eq (.refl _) (hasc.imp fun h => leP_iff.mpr (.inl h))).symm
  walk_at "gs"
  have okR : ∀ q l rs, noLent [] 0 rs = true → callOk true [] rs [] (.val (ruD cR q l)) = true := fun q l rs h => by simp [callOk, h]
  refine GF_w (mirrored_w hB) ?_
  refine s_ok (okR _ _ _ rfl) ?_
  walk_at "gs"
  refine GF_w terms_w ?_
  refine s_ok rfl ?_
  walk_at "gs"
  refine GF_w terms_w ?_
  refine s_ok rfl ?_
  walk_at "gs"
  have hlc := hc.len
  rw [show ((can ls).map tD).reverse = ((can ls).reverse).map tD from List.map_reverse.symm]
  refine ⟨_, _, goComp_y tD (fun t => tD (t.1, 0 - t.2)) (can ls).reverse (fun t _ => ⟨_, _, rfl, rfl, rfl⟩), by rw [List.length_map, List.length_reverse]; omega, ?_⟩
  rw [show (can ls).reverse.map (fun t => tD (t.1, 0 - t.2)) = ((can ls).reverse.map fun t => (t.1, 0 - t.2)).map tD by rw [List.map_map]; rfl, ← back_terms hk.nd]
  refine s_op2 rfl rfl (ne_same (pl_tl _) (dat_tl _ 18)) ?_
  walk_at "gs"
  refine GF_w (mirrored_w hB2.ng) ?_
  refine s_ok (okR _ _ _ rfl) ?_
  walk_at "gs"
  rw [back_back hk.nd]
  have E3 := eq_w (ca := ca) (cR := cR) (p := p) (q := p) (l := can ls) (l' := can ls)
  rw [decide_eq_true (show p = p ∧ can ls = can ls from ⟨rfl, rfl⟩)] at E3
  have isR : ∀ q l, ((tyD (ruD cR q l)).isSome || isIns cR (some (ruD cR q l))) = true := fun q l => by simp [tyD, ruD, isIns]
  refine s_eqO (gs := [("_prime", .int p), ("_terms", .tup ((can ls).map tD))]) (db := ruD cR p (can ls)) rfl rfl (isR _ _) rfl E3 ?_
  walk_at "gs"
  generalize hBd : can ((can ls).map ng) = B at hB2
  refine s_twoT ?_
  walk_at "gs"
  have hSt := Tn_st hk hst
  have hT : ∀ i, i ≤ 6 → Tk p (Tn p ls r0 i) := fun i hi => ⟨(hSt i).nd, (hSt i).val, by have := (hSt i).len (by omega); omega⟩
  refine GF_w (walk_w hpr hk.co hk.len hT) ?_
  refine s_ok rfl ?_
  walk_at "gs"
  have pB : B.Perm (ls.map ng) := by rw [← hBd]; exact (can_perm _).trans ((can_perm ls).map ng)
  refine w_goFor (fun ds e => ∃ (s : Nat) (a b c : Int), s ≤ 7 ∧ ds = (List.range' s (7 - s)).map (fun i => dictP (Tn p ls r0 i)) ∧ e = [some (.lst [.int a, .int b, .int c]), some (.tup [.int p, .lst (ls.map tD)]), some (ruD cR p (can ls)), some (.lst (r0.map pD)), none, some (.lst (r0.map pD)), some (ruD cR p B), some (.lst ((sortP (Tn p ls r0 s)).map pD)), none, none, none, none] ∧ Pl (n + 80 + s) b c) ?hb ?hn _ _ ⟨0, a, b, c, by omega, rfl, by show _ = [_, _, _, _, _, _, _, some (D.lst ((sortP r0).map pD)), _, _, _, _]; rw [es0]; rfl, hp.mono (by omega)⟩
  case hb =>
    rintro d ds e ⟨s, a, b, c, hs, hd, rfl, hp⟩
    obtain ⟨m, hm⟩ : ∃ m, 7 - s = m + 1 := by
      rcases Nat.lt_or_ge s 7 with h | h
      · exact ⟨6 - s, by omega⟩
      · have : 7 - s = 0 := by omega
        rw [this] at hd
        cases hd
    rw [hm, List.range'_succ, List.map_cons] at hd
    injection hd with hd1 hd2
    subst hd1
    have st := hSt s
    have hl := st.len hs
    have pmr := sortP_perm (Tn p ls r0 s)
    have hsl : (sortP (Tn p ls r0 s)).length ≤ 50 := by rw [pmr.length_eq]; exact hl
    have hasc := sortP_asc st.nd
    have hval : ∀ e ∈ sortP (Tn p ls r0 s), 1 ≤ e.2 ∧ e.2 < p := fun e he => st.val e (pmr.mem_iff.mp he)
    obtain ⟨T1, rp⟩ := row_repr (l := sortP (Tn p ls r0 s)) (by omega) fun e he => by
      have v := hval e he
      obtain ⟨lo, l1, l2, hn⟩ := st.near
      have := hn e (pmr.mem_iff.mp he)
      exact ⟨by omega, by omega⟩
    have nx := next_w (ca := ca) (cR := cR) hpr hc.co hc.len hasc hval (by omega) (few hk st (can_perm ls) pmr (by omega))
    rw [step_same hpp (can_perm ls) pmr] at nx
    have tu := turned_w (ca := ca) (cR := cR) st.nd (by omega)
    have pmn := sortP_perm ((Tn p ls r0 s).map ngP)
    have hval2 : ∀ e ∈ sortP ((Tn p ls r0 s).map ngP), 1 ≤ e.2 ∧ e.2 < p := fun e he => by
      obtain ⟨y, hy, rfl⟩ := List.mem_map.mp (pmn.mem_iff.mp he)
      exact st.val y hy
    have nb := next_w (ca := ca) (cR := cR) hpr hB2.co hB2.len (sortP_asc (keys_ng st.nd)) hval2 (by rw [pmn.length_eq, List.length_map]; omega) (few2 hk st pB pmn (by omega))
    rw [mirror_same hpp pB pmn] at nb
    have st2 := hSt (s + 1)
    have e2 : Tn p ls r0 (s + 1) = stepT p ls (Tn p ls r0 s) := rfl
    rw [← e2] at nx nb
    have pm2 := sortP_perm (Tn p ls r0 (s + 1))
    have nd2 : (keysP (sortP (Tn p ls r0 (s + 1)))).Nodup := ((pm2.map Prod.fst).nodup_iff).mpr st2.nd
    have hl2 := st2.len (by omega)
    have tu2 := turned_w (ca := ca) (cR := cR) nd2 (by rw [pm2.length_eq]; omega)
    have hlm2 : ((sortP (Tn p ls r0 (s + 1))).map pD).length < 16777216 := by rw [List.length_map, pm2.length_eq]; omega
    have em : mergeP (sortP (Tn p ls r0 (s + 1))) = sortP (Tn p ls r0 (s + 1)) := merge_nodup _ [] nd2
    have hm2 : 7 - (s + 1) = m := by omega
    refine ⟨_, rfl, ?_⟩
    walk_at "gs"
    refine s_app rfl rp ?_
    walk_at "gs"
    refine s_op1 rfl (gSortIt_ent _) ?_
    walk_at "gs"
    refine s_app rfl rp ?_
    walk_at "gs"
    refine s_twoDt rfl ?_
    walk_at "gs"
    refine draw_w hp (big _ (by omega)) (by decide) (by decide) fun dr a b c d0 d1 hp => ?_
    walk_at "gs"
    refine s_twoM ?M ?m (fun _ h => ?b1) (fun _ h => ?b2)
    case b1 =>
      walk_at "gs"
      refine GF_w nx ?_
      refine s_ok rfl ?_
      walk_at "gs"
      exact h.out
    case b2 =>
      walk_at "gs"
      refine GF_w nx ?_
      refine s_ok rfl ?_
      walk_at "gs"
      exact h.out
    case m =>
    walk_at "gs"
    refine GF_w tu ?_
    refine s_ok rfl ?_
    walk_at "gs"
    refine GF_w nb ?_
    refine s_ok rfl ?_
    walk_at "gs"
    refine s_app rfl (gDict2_pairs _) ?_
    rw [em]
    walk_at "gs"
    refine GF_w tu2 ?_
    refine s_ok rfl ?_
    walk_at "gs"
    refine s_op2 rfl rfl (ne_same (pl_pp _) (dat_pp _ 18)) ?_
    walk_at "gs"
    refine ⟨s + 1, a, b, c, by omega, by rw [hm2]; exact hd2, rfl, hp.mono (by omega)⟩
  case hn =>
    rintro e ⟨s, a, b, c, hs, hd, rfl, hp⟩
    walk_at "gs"
    refine s_op2 rfl rfl (eq_same (pl_pp _) (dat_pp _ 18)) ?_
    walk_at "gs"
    refine GF_w (next_w (row := []) hpr hc.co hc.len .nil (fun _ h => nomatch h) (by decide) (by show 0 < 64; decide)) ?_
    refine s_ok rfl ?_
    rw [nxt_nil]
    walk_at "gs"
    rw [show ((D.lst (List.map pD [])).py.eqv (D.lst []).py) = true by simp [D.py, D.pys, PyData.eqv, PyData.eqvAll]]
    walk_at "gs"
    refine GF_w prime_w ?_
    refine s_ok rfl ?_
    walk_at "gs"
    refine GF_w prime_w ?_
    refine s_ok rfl ?_
    walk_at "gs"
    rw [decide_eq_true (show p = p from rfl)]
    exact k a b c (hp.mono (by omega))
end K04
/-! L04 -/
set_option linter.all false
set_option maxRecDepth 100000
set_option maxHeartbeats 0


namespace K04
open PySem L2 GR
theorem pool_w {ca : Nat → Addr} {cR : Addr} {ns : List Int} {s : Nat} {P : RO → List D → Prop} (hs : s < 100) (k : ∀ a b c, Pl 0 b c → P (.val (.lst [.int a, .int b, .int c])) []) : wO (G_law_pool ca cR [.frl ns, .int (s : Int)]) P := by
  have l1 : (7368787 : Int).natAbs.log2 + ((s : Int) + 1).natAbs.log2 < 1000000 := by
    have := log_lt (a := (s : Int) + 1) (k := 21) (by omega) (by decide)
    have : (7368787 : Int).natAbs.log2 = 22 := by decide
    omega
  unfold G_law_pool
  refine w_runE (env := ?e) rfl ?he ?_
  case he => walk_at "gn"
  unfold f_law_pool
  refine w_seqM (fun e => ∃ z : Int, e = [some (.frl ns), some (.int s), some (.int 0)].set 2 (some (.int z))) ?_ ?_
  · walk_at "gs"
    exact ⟨rfl, 0, rfl⟩
  rintro e ⟨z0, rfl⟩
  refine w_seqM (fun e => ∃ z : Int, e = [some (.frl ns), some (.int s), some (.int z)]) ?_ ?_
  · walk_at "gs"
    refine s_twoD (fun h => ?_) (fun h => ?_)
    · walk_at "gs"
      have h2 : s < ns.length := by omega
      refine s_op2 (da := .frl ns) (db := .int s) (d := .int ns[s]) rfl rfl ?_ ?_
      · simp only [gIx, atI, ixN]
        rw [if_pos (by omega), if_pos (by omega)]
        simp [List.getElem?_eq_getElem h2]
      · walk_at "gs"
        exact ⟨rfl, _, rfl⟩
    · walk_at "gs"
      exact ⟨rfl, _, rfl⟩
  rintro e ⟨z, rfl⟩
  walk_at "gs"
  have b1 := Int.emod_nonneg z (show (2305843009213693951 : Int) ≠ 0 by decide)
  have b2 := Int.emod_lt_of_pos z (show (0 : Int) < 2305843009213693951 by decide)
  exact k _ _ _ ⟨by omega, by omega, by omega, by omega⟩
theorem law_w {ca : Nat → Addr} {cR : Addr} {ns : List Int} : wO (G_law ca cR [.frl ns]) fun r _ => r = .val (.bl true) := by
  unfold G_law
  refine w_runE (env := ?e) rfl ?he ?_
  case he => walk_at "gn"
  unfold f_law
  walk_at "gs"
  refine w_goRng (fun s e => e = [some (.frl ns), none, none, none]) rfl ?_ ?_
  · rintro s e hs rfl
    refine ⟨_, rfl, ?_⟩
    walk_at "gs"
    refine pool_w (by omega) fun a b c hp => ?_
    walk_at "gs"
    refine w_goRng (fun t e => ∃ a b c, e = [some (.frl ns), some (.int s), some (.lst [.int a, .int b, .int c]), none] ∧ Pl (100 * t) b c) ⟨a, b, c, rfl, hp.mono (by omega)⟩ ?_ ?_
    · rintro t e ht ⟨a, b, c, rfl, hp⟩
      have ht : t < 5 := ht
      refine ⟨_, rfl, ?_⟩
      walk_at "gs"
      refine right_w hp (show _ < 1267650600228229401496703205376 by omega) fun a b c hp => ?_
      walk_at "gs"
      exact ⟨a, b, c, rfl, hp.mono (by omega)⟩
    · rintro e ⟨a, b, c, rfl, hp⟩
      walk_at "gs"
      rfl
  · rintro e rfl
    walk_at "gs"
    rfl
end K04
/-! HK04 -/
set_option linter.all false
set_option maxRecDepth 100000
set_option maxHeartbeats 0
namespace K04
open PySem PySem.Spec PyProof.Rows L2 GR
abbrev R : PySem.W.OpenRow := PySem.W.OpenLaw.row PySem.Challenge.rw_grownrows_k04_next_rows
def dd (x : Str) (s : Stmt) : DefQ := ⟨fun K => He.fAd K (x, none), x, x, s⟩
def dm (C m q : Str) (s : Stmt) : DefQ := ⟨fun K => He.fAd K (C, some m), m, q, s⟩
def dp (C m q : Str) (s : Stmt) : DefQ := ⟨fun K => gAd K C m, m, q, s⟩
def fn : List DefQ := [dm "GrowthError" "__init__" "GrowthError.__init__" s_err, dd "check_row" s_check_row, dd "_check_rule" s_check_rule, dm "Rule" "__init__" "Rule.__init__" s_Rule_init, dm "Rule" "__eq__" "Rule.__eq__" s_Rule_eq, dp "Rule" "prime" "Rule.prime" s_Rule_prime, dp "Rule" "terms" "Rule.terms" s_Rule_terms, dm "Rule" "mirrored" "Rule.mirrored" s_Rule_mirrored, dd "grown_once" s_grown_once, dm "Rule" "next_row" "Rule.next_row" s_Rule_next_row, dd "_law_pool" s_law_pool, dd "_law_draw" s_law_draw, dd "_law_kind" s_law_kind, dd "_law_made" s_law_made, dd "_law_row" s_law_row, dd "_law_step" s_law_step, dd "_law_walk" s_law_walk, dd "_law_turned" s_law_turned, dd "_law_right" s_law_right, dd "law" s_law]
def fa : List He.Fa := frees.map He.Fa.free ++ [He.Fa.glo "check_row", He.Fa.glo "_check_rule", He.Fa.glo "grown_once", He.Fa.glo "_law_pool", He.Fa.glo "_law_draw", He.Fa.glo "_law_kind", He.Fa.glo "_law_made", He.Fa.glo "_law_row", He.Fa.glo "_law_step", He.Fa.glo "_law_walk", He.Fa.glo "_law_turned", He.Fa.glo "_law_right", He.Fa.glo "law"] ++ [He.Fa.glo "Rule", He.Fa.cls "Rule", He.Fa.noat "Rule" "_prime", He.Fa.noat "Rule" "_terms", He.Fa.mkr "Rule"] ++ [He.Fa.meth "Rule" "mirrored", He.Fa.meth "Rule" "next_row"]
def eqO0 (K : PySem.W.Frag) (x : Str) : Bool := (He.Fa.glo x).ok K
def pr (K : PySem.W.Frag) : Bool := errsB nm K && ((fa.all fun f => f.ok K) && (insB K "Rule" && (eqB K "Rule" && (propB K "Rule" "prime" && (propB K "Rule" "terms" && ((eqO0 K "PRIMES" && He.tupB K "PRIMES" [.int 2, .int 3, .int 5])))))))
def tb : List (Str × Option Str) := [("Rule", some "__init__")]
abbrev hk : PySem.W.Hook := hookQ 6 pr fn tb
def ob (s : PySem.W.SharedT) : AlQ := obsQ 6 pr fn tb (HandSHeadRun.getT s)
theorem ob_eq (s : PySem.W.SharedT) : ob s = hk.obs s.abs := obsQ_eq (HandSHeadRun.getT_eq s)
def loose : List Str := (["_wall", "__name__", "GrowthError", "InvalidPrime", "InvalidTerm", "InvalidRow", "check_row", "PRIMES", "Rule", "grown_once", "_check_rule", "_law_pool", "_law_draw", "_law_kind", "_law_made", "_law_row", "_law_step", "_law_walk", "_law_turned", "_law_right"] : List Str)
theorem run (w : World) : HandSHeadRun.RunEq R (PySem.W.view R.prog [22]) hk ob 6000 loose w := by
  intro os
  kernel_rfl
end K04
/-! TK04 -/
set_option linter.all false
set_option maxRecDepth 100000
set_option maxHeartbeats 0
namespace K04
open PySem PySem.Spec PyProof.Rows L2 GR
theorem facts {w : World} {K : PySem.W.Frag} {h : Heap} {mg : Str → Option Value} {fa0 : Addr} (X : K.In h) (G : h.Ns mainGlobals mg) (hfa : mg ("law" : Str) = some (.ref fa0)) (c : SaysQ pr fn tb K h) :
    LawAtG PySem.Challenge.rw_grownrows_k04_next_rows w K (L2.CX (PySem.Challenge.rw_grownrows_k04_next_rows).prog w) 13 63 "script" mg fa0 h := by
  have cp := c.pr
  unfold pr at cp
  obtain ⟨cE, cp⟩ := He.ba cp
  obtain ⟨cF, cp⟩ := He.ba cp
  obtain ⟨cB0, cp⟩ := He.ba cp
  obtain ⟨cB1, cp⟩ := He.ba cp
  obtain ⟨cB2, cp⟩ := He.ba cp
  obtain ⟨cB3, cp⟩ := He.ba cp
  have cg_PRIMES := cp
  obtain ⟨cg_PRIMES1, cg_PRIMES2⟩ := He.ba cg_PRIMES
  have fact : ∀ f ∈ fa, f.ok K = true := fun f hf => List.all_eq_true.mp cF f hf
  obtain ⟨fdE, FE⟩ : ∃ fd, L2.Fun K "__init__" "GrowthError.__init__" s_err (He.fAd K gErr) fd := c.def_ 0 (d := dm "GrowthError" "__init__" "GrowthError.__init__" s_err)
  obtain ⟨fd_check_row, F_check_row⟩ : ∃ fd, L2.Fun K "check_row" "check_row" s_check_row (He.fAd K ("check_row", none)) fd := c.def_ 1 (d := dd "check_row" s_check_row)
  obtain ⟨fd_check_rule, F_check_rule⟩ : ∃ fd, L2.Fun K "_check_rule" "_check_rule" s_check_rule (He.fAd K ("_check_rule", none)) fd := c.def_ 2 (d := dd "_check_rule" s_check_rule)
  obtain ⟨fd_Rule_init, F_Rule_init⟩ : ∃ fd, L2.Fun K "__init__" "Rule.__init__" s_Rule_init (He.fAd K ("Rule", some "__init__")) fd := c.def_ 3 (d := dm "Rule" "__init__" "Rule.__init__" s_Rule_init)
  obtain ⟨fd_Rule_eq, F_Rule_eq⟩ : ∃ fd, L2.Fun K "__eq__" "Rule.__eq__" s_Rule_eq (He.fAd K ("Rule", some "__eq__")) fd := c.def_ 4 (d := dm "Rule" "__eq__" "Rule.__eq__" s_Rule_eq)
  obtain ⟨fd_Rule_prime, F_Rule_prime⟩ : ∃ fd, L2.Fun K "prime" "Rule.prime" s_Rule_prime (gAd K "Rule" "prime") fd := c.def_ 5 (d := dp "Rule" "prime" "Rule.prime" s_Rule_prime)
  obtain ⟨fd_Rule_terms, F_Rule_terms⟩ : ∃ fd, L2.Fun K "terms" "Rule.terms" s_Rule_terms (gAd K "Rule" "terms") fd := c.def_ 6 (d := dp "Rule" "terms" "Rule.terms" s_Rule_terms)
  obtain ⟨fd_Rule_mirrored, F_Rule_mirrored⟩ : ∃ fd, L2.Fun K "mirrored" "Rule.mirrored" s_Rule_mirrored (He.fAd K ("Rule", some "mirrored")) fd := c.def_ 7 (d := dm "Rule" "mirrored" "Rule.mirrored" s_Rule_mirrored)
  obtain ⟨fd_grown_once, F_grown_once⟩ : ∃ fd, L2.Fun K "grown_once" "grown_once" s_grown_once (He.fAd K ("grown_once", none)) fd := c.def_ 8 (d := dd "grown_once" s_grown_once)
  obtain ⟨fd_Rule_next_row, F_Rule_next_row⟩ : ∃ fd, L2.Fun K "next_row" "Rule.next_row" s_Rule_next_row (He.fAd K ("Rule", some "next_row")) fd := c.def_ 9 (d := dm "Rule" "next_row" "Rule.next_row" s_Rule_next_row)
  obtain ⟨fd_law_pool, F_law_pool⟩ : ∃ fd, L2.Fun K "_law_pool" "_law_pool" s_law_pool (He.fAd K ("_law_pool", none)) fd := c.def_ 10 (d := dd "_law_pool" s_law_pool)
  obtain ⟨fd_law_draw, F_law_draw⟩ : ∃ fd, L2.Fun K "_law_draw" "_law_draw" s_law_draw (He.fAd K ("_law_draw", none)) fd := c.def_ 11 (d := dd "_law_draw" s_law_draw)
  obtain ⟨fd_law_kind, F_law_kind⟩ : ∃ fd, L2.Fun K "_law_kind" "_law_kind" s_law_kind (He.fAd K ("_law_kind", none)) fd := c.def_ 12 (d := dd "_law_kind" s_law_kind)
  obtain ⟨fd_law_made, F_law_made⟩ : ∃ fd, L2.Fun K "_law_made" "_law_made" s_law_made (He.fAd K ("_law_made", none)) fd := c.def_ 13 (d := dd "_law_made" s_law_made)
  obtain ⟨fd_law_row, F_law_row⟩ : ∃ fd, L2.Fun K "_law_row" "_law_row" s_law_row (He.fAd K ("_law_row", none)) fd := c.def_ 14 (d := dd "_law_row" s_law_row)
  obtain ⟨fd_law_step, F_law_step⟩ : ∃ fd, L2.Fun K "_law_step" "_law_step" s_law_step (He.fAd K ("_law_step", none)) fd := c.def_ 15 (d := dd "_law_step" s_law_step)
  obtain ⟨fd_law_walk, F_law_walk⟩ : ∃ fd, L2.Fun K "_law_walk" "_law_walk" s_law_walk (He.fAd K ("_law_walk", none)) fd := c.def_ 16 (d := dd "_law_walk" s_law_walk)
  obtain ⟨fd_law_turned, F_law_turned⟩ : ∃ fd, L2.Fun K "_law_turned" "_law_turned" s_law_turned (He.fAd K ("_law_turned", none)) fd := c.def_ 17 (d := dd "_law_turned" s_law_turned)
  obtain ⟨fd_law_right, F_law_right⟩ : ∃ fd, L2.Fun K "_law_right" "_law_right" s_law_right (He.fAd K ("_law_right", none)) fd := c.def_ 18 (d := dd "_law_right" s_law_right)
  obtain ⟨fd_law, F_law⟩ : ∃ fd, L2.Fun K "law" "law" s_law (He.fAd K ("law", none)) fd := c.def_ 19 (d := dd "law" s_law)
  have ET : Errs K mg (eca K nm) (He.fAd K gErr) nm := errs_of X G cE FE
  let cR : Addr := He.ga K "Rule"
  have Z : ZEnv K mg cR := { free := fun x hx => He.free_ok X G (fact _ (by unfold fa; repeat (first | exact List.mem_map.mpr ⟨x, hx, rfl⟩ | refine List.mem_append_left _ ?_))), cls := He.cls_ok (fact (He.Fa.cls "Rule") (by simp [fa])), noat := fun x hx => He.noat_ok (fact (He.Fa.noat "Rule" x) (by simp only [List.mem_cons, List.not_mem_nil, or_false] at hx; rcases hx with rfl | rfl <;> simp [fa])), ty := insB_ok cB0, rule := He.glo_ok X G (fact (He.Fa.glo "Rule") (by simp [fa])), r_PRIMES := ⟨He.ga K "PRIMES", He.glo_ok X G cg_PRIMES1, fun H R => .tup (He.tupB_ok cg_PRIMES2 H) (by repeat (first | exact .nil | refine .cons .int ?_))⟩ }
  have glo : ∀ x, He.Fa.glo x ∈ fa → mg x = some (.ref (He.ga K x)) := fun x hx => He.glo_ok X G (fact _ hx)
  have e := hfa.symm.trans (glo "law" (by simp [fa]))
  cases e
  letI TT : TabT := ⟨[(tabAd K ("Rule", some "__init__"), "Rule.__init__.<locals>.<lambda>")]⟩
  have hTT : (TabT.T : List (Addr × Str)) = ([(tabAd K ("Rule", some "__init__"), "Rule.__init__.<locals>.<lambda>")] : List (Addr × Str)) := rfl
  have b_check_row : Binds K fd_check_row ["prime", "row"] [] := L2.Fun.binds0 F_check_row (fun _ _ _ _ _ _ us hl => match us, hl with | [_, _], _ => rfl)
  have b_check_rule : Binds K fd_check_rule ["prime", "terms"] [] := L2.Fun.binds0 F_check_rule (fun _ _ _ _ _ _ us hl => match us, hl with | [_, _], _ => rfl)
  have b_Rule_init : Binds K fd_Rule_init ["self", "prime", "terms"] [] := L2.Fun.binds0 F_Rule_init (fun _ _ _ _ _ _ us hl => match us, hl with | [_, _, _], _ => rfl)
  have b_Rule_eq : Binds K fd_Rule_eq ["self", "other"] [] := L2.Fun.binds0 F_Rule_eq (fun _ _ _ _ _ _ us hl => match us, hl with | [_, _], _ => rfl)
  have b_Rule_prime : Binds K fd_Rule_prime ["self"] [] := L2.Fun.binds0 F_Rule_prime (fun _ _ _ _ _ _ us hl => match us, hl with | [_], _ => rfl)
  have b_Rule_terms : Binds K fd_Rule_terms ["self"] [] := L2.Fun.binds0 F_Rule_terms (fun _ _ _ _ _ _ us hl => match us, hl with | [_], _ => rfl)
  have b_Rule_mirrored : Binds K fd_Rule_mirrored ["self"] [] := L2.Fun.binds0 F_Rule_mirrored (fun _ _ _ _ _ _ us hl => match us, hl with | [_], _ => rfl)
  have b_grown_once : Binds K fd_grown_once ["prime", "terms", "row"] [] := L2.Fun.binds0 F_grown_once (fun _ _ _ _ _ _ us hl => match us, hl with | [_, _, _], _ => rfl)
  have b_Rule_next_row : Binds K fd_Rule_next_row ["self", "row"] [] := L2.Fun.binds0 F_Rule_next_row (fun _ _ _ _ _ _ us hl => match us, hl with | [_, _], _ => rfl)
  have b_law_pool : Binds K fd_law_pool ["script", "spot"] [] := L2.Fun.binds0 F_law_pool (fun _ _ _ _ _ _ us hl => match us, hl with | [_, _], _ => rfl)
  have b_law_draw : Binds K fd_law_draw ["pool", "many"] [] := L2.Fun.binds0 F_law_draw (fun _ _ _ _ _ _ us hl => match us, hl with | [_, _], _ => rfl)
  have b_law_kind : Binds K fd_law_kind ["pool"] [] := L2.Fun.binds0 F_law_kind (fun _ _ _ _ _ _ us hl => match us, hl with | [_], _ => rfl)
  have b_law_made : Binds K fd_law_made ["kind"] [] := L2.Fun.binds0 F_law_made (fun _ _ _ _ _ _ us hl => match us, hl with | [_], _ => rfl)
  have b_law_row : Binds K fd_law_row ["pool", "kind", "many", "far"] [] := L2.Fun.binds0 F_law_row (fun _ _ _ _ _ _ us hl => match us, hl with | [_, _, _, _], _ => rfl)
  have b_law_step : Binds K fd_law_step ["kind", "there"] [] := L2.Fun.binds0 F_law_step (fun _ _ _ _ _ _ us hl => match us, hl with | [_, _], _ => rfl)
  have b_law_walk : Binds K fd_law_walk ["kind", "begin_row", "many"] [] := L2.Fun.binds0 F_law_walk (fun _ _ _ _ _ _ us hl => match us, hl with | [_, _, _], _ => rfl)
  have b_law_turned : Binds K fd_law_turned ["there"] [] := L2.Fun.binds0 F_law_turned (fun _ _ _ _ _ _ us hl => match us, hl with | [_], _ => rfl)
  have b_law_right : Binds K fd_law_right ["pool"] [] := L2.Fun.binds0 F_law_right (fun _ _ _ _ _ _ us hl => match us, hl with | [_], _ => rfl)
  have b_law : Binds K fd_law ["script"] [] := L2.Fun.binds0 F_law (fun _ _ _ _ _ _ us hl => match us, hl with | [_], _ => rfl)
  have bl := L2.Fun.to1 (ps := ["script"]) F_law (fun _ _ _ _ _ _ us hl => match us, hl with | [_], _ => rfl)
  refine ⟨fd_law, tb.map fun p => (codeAd K p, tabAd K p), spD K true [] (G_law (eca K nm) cR), ?_, ?_, ?_, fun s u => bl s [u] rfl, ?_, ?_⟩
  · intro p hp
    obtain ⟨x, hx, rfl⟩ := List.mem_map.mp hp
    exact (c.tab x hx).2.1
  · intro p hp
    obtain ⟨x, hx, rfl⟩ := List.mem_map.mp hp
    exact (c.tab x hx).2.2
  · intro p hp
    obtain ⟨x, hx, rfl⟩ := List.mem_map.mp hp
    exact PySem.W.codeHd_of_K X (c.tab x hx).1
  · intro P H a ns _ _ L
    obtain ⟨r, os, e, rfl⟩ := law_w (ca := eca K nm) (cR := cR) (ns := ns)
    exact law_sp L e (by simp [tb, hTT])
  · intro base _ _ hT
    have hTB := hT
    have O_check_row := ok_check_row (P := (PySem.Challenge.rw_grownrows_k04_next_rows).prog) (w := w) (base := base) Z ET F_check_row
    have C_check_row : Callee (PySem.Challenge.rw_grownrows_k04_next_rows).prog w K mg base "check_row" s_check_row ["prime", "row"] true [] (G_check_row (eca K nm) cR) 1 := ⟨_, _, F_check_row, O_check_row, glo _ (by simp [fa]), F_check_row.kp, b_check_row⟩
    have O_check_rule := ok_check_rule (P := (PySem.Challenge.rw_grownrows_k04_next_rows).prog) (w := w) (base := base) Z ET F_check_rule
    have C_check_rule : Callee (PySem.Challenge.rw_grownrows_k04_next_rows).prog w K mg base "_check_rule" s_check_rule ["prime", "terms"] true [] (G_check_rule (eca K nm) cR) 1 := ⟨_, _, F_check_rule, O_check_rule, glo _ (by simp [fa]), F_check_rule.kp, b_check_rule⟩
    have O_Rule_init := ok_Rule_init (P := (PySem.Challenge.rw_grownrows_k04_next_rows).prog) (w := w) (base := base) Z ET F_Rule_init C_check_rule (cd := codeAd K ("Rule", some "__init__")) (P0 := tabAd K ("Rule", some "__init__")) (hTB _ (List.mem_map.mpr ⟨("Rule", some "__init__"), by simp [tb], rfl⟩)) (code_atQ F_Rule_init) (by simp [hTT]; try rfl) (by intro p hp _; simp only [hTT, List.mem_cons, List.not_mem_nil, or_false] at hp; rw [hp]; rfl)
    have M_Rule_init : MakeAt (PySem.Challenge.rw_grownrows_k04_next_rows).prog w K mg base "Rule" cR ["self", "prime", "terms"] (G_Rule_init (eca K nm) cR) 4 := ⟨_, _, He.mkr_ok (fact (He.Fa.mkr "Rule") (by simp [fa])), FnG.tnF O_Rule_init, glo _ (by simp [fa]), b_Rule_init⟩
    have O_Rule_eq := ok_Rule_eq (P := (PySem.Challenge.rw_grownrows_k04_next_rows).prog) (w := w) (base := base) Z ET F_Rule_eq
    have O_Rule : OwnEq (PySem.Challenge.rw_grownrows_k04_next_rows).prog w K mg base cR (G_Rule_eq (eca K nm) cR) 1 := eqB_ok cB1 O_Rule_eq b_Rule_eq
    have O_Rule_prime := ok_Rule_prime (P := (PySem.Challenge.rw_grownrows_k04_next_rows).prog) (w := w) (base := base) Z ET F_Rule_prime
    have P_Rule_prime : PropAt (PySem.Challenge.rw_grownrows_k04_next_rows).prog w K mg base cR "prime" false (G_Rule_prime (eca K nm) cR) 1 := ⟨_, _, _, _, Z.cls, propB_ok cB2, O_Rule_prime, b_Rule_prime⟩
    have O_Rule_terms := ok_Rule_terms (P := (PySem.Challenge.rw_grownrows_k04_next_rows).prog) (w := w) (base := base) Z ET F_Rule_terms
    have P_Rule_terms : PropAt (PySem.Challenge.rw_grownrows_k04_next_rows).prog w K mg base cR "terms" true (G_Rule_terms (eca K nm) cR) 1 := ⟨_, _, _, _, Z.cls, propB_ok cB3, O_Rule_terms, b_Rule_terms⟩
    have O_Rule_mirrored := ok_Rule_mirrored (P := (PySem.Challenge.rw_grownrows_k04_next_rows).prog) (w := w) (base := base) Z ET F_Rule_mirrored M_Rule_init
    have T_Rule_mirrored : MethAt (PySem.Challenge.rw_grownrows_k04_next_rows).prog w K mg base cR "mirrored" ["self"] true [] (G_Rule_mirrored (eca K nm) cR) 7 := ⟨_, _, Z.cls, He.meth_ok (fact (He.Fa.meth "Rule" "mirrored") (by simp [fa])), O_Rule_mirrored, b_Rule_mirrored⟩
    have O_grown_once := ok_grown_once (P := (PySem.Challenge.rw_grownrows_k04_next_rows).prog) (w := w) (base := base) Z ET F_grown_once
    have C_grown_once : Callee (PySem.Challenge.rw_grownrows_k04_next_rows).prog w K mg base "grown_once" s_grown_once ["prime", "terms", "row"] true [] (G_grown_once (eca K nm) cR) 1 := ⟨_, _, F_grown_once, O_grown_once, glo _ (by simp [fa]), F_grown_once.kp, b_grown_once⟩
    have O_Rule_next_row := ok_Rule_next_row (P := (PySem.Challenge.rw_grownrows_k04_next_rows).prog) (w := w) (base := base) Z ET F_Rule_next_row C_check_row C_grown_once
    have K_Rule_next_row : MethKwAt (PySem.Challenge.rw_grownrows_k04_next_rows).prog w K mg base cR "next_row" ["self", "row"] ["row"] perId true [] (G_Rule_next_row (eca K nm) cR) 4 := ⟨_, _, Z.cls, He.meth_ok (fact (He.Fa.meth "Rule" "next_row") (by simp [fa])), O_Rule_next_row, kwfitMQ F_Rule_next_row (fun kV doc pm an cdv ct v ws hl => match ws, hl with | [_], _ => rfl)⟩
    have T_Rule_next_row : MethAt (PySem.Challenge.rw_grownrows_k04_next_rows).prog w K mg base cR "next_row" ["self", "row"] true [] (G_Rule_next_row (eca K nm) cR) 4 := ⟨_, _, Z.cls, He.meth_ok (fact (He.Fa.meth "Rule" "next_row") (by simp [fa])), O_Rule_next_row, b_Rule_next_row⟩
    have O_law_pool := ok_law_pool (P := (PySem.Challenge.rw_grownrows_k04_next_rows).prog) (w := w) (base := base) Z ET F_law_pool
    have C_law_pool : Callee (PySem.Challenge.rw_grownrows_k04_next_rows).prog w K mg base "_law_pool" s_law_pool ["script", "spot"] true [] (G_law_pool (eca K nm) cR) 1 := ⟨_, _, F_law_pool, O_law_pool, glo _ (by simp [fa]), F_law_pool.kp, b_law_pool⟩
    have O_law_draw := ok_law_draw (P := (PySem.Challenge.rw_grownrows_k04_next_rows).prog) (w := w) (base := base) Z ET F_law_draw
    have C_law_draw : Callee (PySem.Challenge.rw_grownrows_k04_next_rows).prog w K mg base "_law_draw" s_law_draw ["pool", "many"] false [0] (G_law_draw (eca K nm) cR) 1 := ⟨_, _, F_law_draw, O_law_draw, glo _ (by simp [fa]), F_law_draw.kp, b_law_draw⟩
    have O_law_kind := ok_law_kind (P := (PySem.Challenge.rw_grownrows_k04_next_rows).prog) (w := w) (base := base) Z ET F_law_kind C_law_draw
    have C_law_kind : Callee (PySem.Challenge.rw_grownrows_k04_next_rows).prog w K mg base "_law_kind" s_law_kind ["pool"] true [0] (G_law_kind (eca K nm) cR) 4 := ⟨_, _, F_law_kind, O_law_kind, glo _ (by simp [fa]), F_law_kind.kp, b_law_kind⟩
    have O_law_made := ok_law_made (P := (PySem.Challenge.rw_grownrows_k04_next_rows).prog) (w := w) (base := base) Z ET F_law_made M_Rule_init
    have C_law_made : Callee (PySem.Challenge.rw_grownrows_k04_next_rows).prog w K mg base "_law_made" s_law_made ["kind"] true [] (G_law_made (eca K nm) cR) 7 := ⟨_, _, F_law_made, O_law_made, glo _ (by simp [fa]), F_law_made.kp, b_law_made⟩
    have O_law_row := ok_law_row (P := (PySem.Challenge.rw_grownrows_k04_next_rows).prog) (w := w) (base := base) Z ET F_law_row C_law_draw
    have C_law_row : Callee (PySem.Challenge.rw_grownrows_k04_next_rows).prog w K mg base "_law_row" s_law_row ["pool", "kind", "many", "far"] true [0] (G_law_row (eca K nm) cR) 4 := ⟨_, _, F_law_row, O_law_row, glo _ (by simp [fa]), F_law_row.kp, b_law_row⟩
    have O_law_step := ok_law_step (P := (PySem.Challenge.rw_grownrows_k04_next_rows).prog) (w := w) (base := base) Z ET F_law_step
    have C_law_step : Callee (PySem.Challenge.rw_grownrows_k04_next_rows).prog w K mg base "_law_step" s_law_step ["kind", "there"] true [] (G_law_step (eca K nm) cR) 1 := ⟨_, _, F_law_step, O_law_step, glo _ (by simp [fa]), F_law_step.kp, b_law_step⟩
    have O_law_walk := ok_law_walk (P := (PySem.Challenge.rw_grownrows_k04_next_rows).prog) (w := w) (base := base) Z ET F_law_walk C_law_step
    have C_law_walk : Callee (PySem.Challenge.rw_grownrows_k04_next_rows).prog w K mg base "_law_walk" s_law_walk ["kind", "begin_row", "many"] true [] (G_law_walk (eca K nm) cR) 4 := ⟨_, _, F_law_walk, O_law_walk, glo _ (by simp [fa]), F_law_walk.kp, b_law_walk⟩
    have O_law_turned := ok_law_turned (P := (PySem.Challenge.rw_grownrows_k04_next_rows).prog) (w := w) (base := base) Z ET F_law_turned
    have C_law_turned : Callee (PySem.Challenge.rw_grownrows_k04_next_rows).prog w K mg base "_law_turned" s_law_turned ["there"] true [] (G_law_turned (eca K nm) cR) 1 := ⟨_, _, F_law_turned, O_law_turned, glo _ (by simp [fa]), F_law_turned.kp, b_law_turned⟩
    have O_law_right := ok_law_right (P := (PySem.Challenge.rw_grownrows_k04_next_rows).prog) (w := w) (base := base) Z ET F_law_right O_Rule T_Rule_mirrored K_Rule_next_row T_Rule_next_row P_Rule_prime P_Rule_terms C_law_draw C_law_kind C_law_made C_law_row C_law_turned C_law_walk
    have C_law_right : Callee (PySem.Challenge.rw_grownrows_k04_next_rows).prog w K mg base "_law_right" s_law_right ["pool"] true [0] (G_law_right (eca K nm) cR) 10 := ⟨_, _, F_law_right, O_law_right, glo _ (by simp [fa]), F_law_right.kp, b_law_right⟩
    have O_law := ok_law (P := (PySem.Challenge.rw_grownrows_k04_next_rows).prog) (w := w) (base := base) Z ET F_law C_law_pool C_law_right
    exact O_law
end K04
open PySem PySem.W PySem.Calls PyProof.Rows
set_option maxRecDepth 100000 in
set_option maxHeartbeats 0 in
theorem PySem.Challenge.cw_grownrows_k04_next_rows_holds : PySem.Challenge.rw_grownrows_k04_next_rows.Holds := by
  w_on; o_law
  refine HandSHeadRun.head_any (r := OpenLaw.row PySem.Challenge.rw_grownrows_k04_next_rows) (q := view (OpenLaw.row PySem.Challenge.rw_grownrows_k04_next_rows).prog [22]) (H := K04.hk) (ob := K04.ob) (M := 6000) (loose := K04.loose) (d := HandSHeadRun.topDef (OpenLaw.row PySem.Challenge.rw_grownrows_k04_next_rows).prog 22) (kwd := []) K04.ob_eq
    (by kernel_rfl) (fun s => by kernel_rfl) K04.run (by kernel_rfl) (by kernel_rfl) (by kernel_rfl) (by rfl) (by first | assumption | decide +kernel) (by decide +kernel) ⟨rfl, rfl, rfl, rfl, rfl, by decide +kernel⟩ ?hw ?hc
  case hw => w_witness2
  case hc =>
    refine GR.walk_ofG (l := PySem.Challenge.rw_grownrows_k04_next_rows) (n := 63) (k := 13) (x := "script") (CX := fun w => L2.CX (PySem.Challenge.rw_grownrows_k04_next_rows).prog w) rfl (by decide) (by kernel_rfl) ⟨⟨rfl, by decide, by decide⟩, rfl⟩ ?F ?noX
    case noX => exact fun w H s e s' => GR.noX_law
    case F =>
      intro w mg fa h Y G hmg0
      obtain ⟨K, c⟩ := Y
      have hmg : mg ("law" : PySem.Str) = some (.ref fa) := by
        have e : (HandSHeadRun.topDef (OpenLaw.row PySem.Challenge.rw_grownrows_k04_next_rows).prog 22).name = ("law" : PySem.Str) := by kernel_rfl
        rw [← e]
        exact hmg0
      exact ⟨K, c.inK, K04.facts c.inK G hmg c⟩
