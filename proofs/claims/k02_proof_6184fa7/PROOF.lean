import PyProof.Rows.All
import Wide.All
import OpenK.AllK
import Wide.FinOn
import HandS.ForMost
import PyProof.ReprLen
import PyProof.ReprRoads
import PyProof.WalksMore
import PyProof.CollectIter
import KE.SortUse
import HandS.Lambda
import HandS.EndTab
import HandS.SortKw
import PyProof.Rows.TupSub
import HandS.SetKeys
import PyProof.Rows.SetFrom
import HandS.Conv
import KE.KDictPairs
import HandS.IsInst
import HandS.TupAny
import HandS.TupMul
import HandS.Style
import HandS.ExcInit
import HandS.ExcIs
import HandS.ExcField
import HandS.CallLocal
import HandS.CallSlots
import HandS.TryOnly
import HandS.ExcOwn
import HandS.WordsExc
import HandS.More
import HandS.NoneIn
import HandS.Walk
import HandS.Deep
import HandS.SlotsOwn
import HandS.MakeKw
import PyProof.ExcFactsAll.OverflowError
import KE.KExcInit
import HandS.TupSets
import HandS.Defaults
import HandS.TryMany
import KE.KNestM
import KE.GoesEnum
import HandS.ForDict
import HandS.Codes
import PySem.Challenge.RW_plainstore_k02_pasts_made_and_changed
set_option Elab.async false
set_option linter.all false
set_option maxRecDepth 100000
set_option maxHeartbeats 8000000
namespace Pl
open L2 PySem PySem.Spec PyProof.Rows
/-- what a tracked tuple's items read as: known to its object (which has no dict), or longer than four, or (k = false) any -/
inductive TupAt (H : Hp) : Bool → Addr → List V → Prop
  | frz {k : Bool} {a : Addr} {o : Obj} {xs : List V} (h : H a = some (.frz o (.tup xs))) (d : o.dict = none) : TupAt H k a xs
  | big {k : Bool} {a : Addr} {xs : List V} (h : H a = some (.tup xs)) (l : 4 < xs.length) : TupAt H k a xs
  | any {a : Addr} {xs : List V} (h : H a = some (.tup xs)) : TupAt H false a xs
mutual
/-- m: dicts (true) or lists (false) stand in it; z: an address that it keeps away from; k: its own tuple is known -/
inductive Dv (m : Bool) (z : Addr) (H : Hp) : Bool → V → PyData → Prop
  | non {k : Bool} : Dv m z H k .non .none
  | bl {k : Bool} (b : Bool) : Dv m z H k (.bl b) (.bool b)
  | int {k : Bool} (i : Int) : Dv m z H k (.int i) (.int i)
  | str {k : Bool} (x : Str) : Dv m z H k (.str x) (.str x)
  | lst {k : Bool} {a : Addr} {xs : List V} {ds : List PyData} (hm : m = false) (ne : a ≠ z) (h : H a = some (.lst xs)) (t : DvL m z H false xs ds) : Dv m z H k (.ref a) (.list ds)
  | tup {k : Bool} {a : Addr} {xs : List V} {ds : List PyData} (ne : a ≠ z) (h : TupAt H k a xs) (t : DvL m z H true xs ds) : Dv m z H k (.ref a) (.tuple ds)
  | dct {k : Bool} {a : Addr} (hm : m = true) (ne : a ≠ z) (h : H a = some (.dK [])) : Dv m z H k (.ref a) (.dict [])
inductive DvL (m : Bool) (z : Addr) (H : Hp) : Bool → List V → List PyData → Prop
  | nil {k : Bool} : DvL m z H k [] []
  | cons {k : Bool} {v : V} {vs : List V} {d : PyData} {ds : List PyData} (a : Dv m z H k v d) (t : DvL m z H k vs ds) : DvL m z H k (v :: vs) (d :: ds)
end
theorem TupAt.weak {H : Hp} {k : Bool} {a : Addr} {xs : List V} (h : TupAt H k a xs) : TupAt H false a xs := by
  cases h with
  | frz h d => exact .frz h d
  | big h l => exact .any h
  | any h => exact .any h
theorem TupAt.sq {K : PySem.W.Frag} {H : Hp} {k : Bool} {a : Addr} {xs : List V} (h : TupAt H k a xs) : SqT K H a xs := by
  cases h with
  | frz h d => exact .inl (.inr ⟨_, h⟩)
  | big h l => exact .inl (.inl h)
  | any h => exact .inl (.inl h)
/-- (any object) -/
def NoT (_ : HO) : Prop := True
theorem NoT.lst {xs : List V} : NoT (.lst xs) := trivial
theorem NoT.tup {xs : List V} : NoT (.tup xs) := trivial
theorem NoT.dK {kvs : List (Key × V)} : NoT (.dK kvs) := trivial
theorem NoT.frz {o : Obj} {u : HO} : NoT (.frz o u) := trivial
/-- all but z stands -/
def But (z : Addr) (H G : Hp) : Prop := ∀ b o, b ≠ z → NoT o → H b = some o → G b = some o
/-- all stands -/
def Sam (H G : Hp) : Prop := ∀ b o, NoT o → H b = some o → G b = some o
theorem Sam.refl (H : Hp) : Sam H H := fun _ _ _ e => e
theorem Sam.of {H G : Hp} (s : Same H G) : Sam H G := fun b o _ e => s b o e
theorem Sam.trans {H G F : Hp} (a : Sam H G) (b : Sam G F) : Sam H F := fun c o n e => b c o n (a c o n e)
theorem Sam.but {H G : Hp} {z : Addr} (s : Sam H G) : But z H G := fun b o _ n e => s b o n e
theorem But.of {H G : Hp} {z : Addr} (s : Same H G) : But z H G := fun b o _ _ e => s b o e
theorem But.refl (z : Addr) (H : Hp) : But z H H := fun _ _ _ _ e => e
theorem But.trans {z : Addr} {H G F : Hp} (a : But z H G) (b : But z G F) : But z H F := fun c o n t e => b c o n t (a c o n t e)
theorem But.upd {z : Addr} {H : Hp} {o : HO} : But z H (L2.upd H z o) := fun b u n _ e => (upd_ne n).trans e
theorem But.new {z p : Addr} {H : Hp} {o : HO} (f : H p = none) : But z H (L2.upd H p o) := fun b u _ _ e => (upd_ne (ne_of_none e f)).trans e
theorem same_new {p : Addr} {H : Hp} {o : HO} (f : H p = none) : Same H (L2.upd H p o) := fun b u e => (upd_ne (ne_of_none e f)).trans e
theorem TupAt.to {H G : Hp} {z : Addr} {k : Bool} {a : Addr} {xs : List V} (e : But z H G) (ne : a ≠ z) (h : TupAt H k a xs) : TupAt G k a xs := by
  cases h with
  | frz h d => exact .frz (e _ _ ne NoT.frz h) d
  | big h l => exact .big (e _ _ ne NoT.tup h) l
  | any h => exact .any (e _ _ ne NoT.tup h)
section
variable {m : Bool} {z : Addr} {H G : Hp}
mutual
theorem Dv.to (e : But z H G) : ∀ (k : Bool) (d : PyData) (v : V), Dv m z H k v d → Dv m z G k v d
  | _, .none, _, h => by cases h; exact .non
  | _, .bool _, _, h => by cases h; exact .bl _
  | _, .int _, _, h => by cases h; exact .int _
  | _, .str _, _, h => by cases h; exact .str _
  | _, .list ds, _, h => by
    cases h with
    | lst hm ne h t => exact .lst hm ne (e _ _ ne NoT.lst h) (DvL.to e _ ds _ t)
  | _, .tuple ds, _, h => by
    cases h with
    | tup ne h t => exact .tup ne (h.to e ne) (DvL.to e _ ds _ t)
  | _, .dict _, _, h => by
    cases h with
    | dct hm ne h => exact .dct hm ne (e _ _ ne NoT.dK h)
theorem DvL.to (e : But z H G) : ∀ (k : Bool) (ds : List PyData) (vs : List V), DvL m z H k vs ds → DvL m z G k vs ds
  | _, [], _, h => by cases h; exact .nil
  | _, d :: ds, _, h => by
    cases h with
    | cons a t => exact .cons (Dv.to e _ d _ a) (DvL.to e _ ds _ t)
end
theorem Dv.weak {k : Bool} {v : V} {d : PyData} (h : Dv m z H k v d) : Dv m z H false v d := by
  cases h with
  | non => exact .non
  | bl b => exact .bl b
  | int i => exact .int i
  | str x => exact .str x
  | lst hm ne h t => exact .lst hm ne h t
  | tup ne h t => exact .tup ne h.weak t
  | dct hm ne h => exact .dct hm ne h
theorem DvL.weak {k : Bool} : ∀ {vs : List V} {ds : List PyData}, DvL m z H k vs ds → DvL m z H false vs ds
  | _, _, .nil => .nil
  | _, _, .cons a t => .cons a.weak t.weak
theorem DvL.len {k : Bool} : ∀ {vs : List V} {ds : List PyData}, DvL m z H k vs ds → vs.length = ds.length
  | _, _, .nil => rfl
  | _, _, .cons _ t => congrArg Nat.succ t.len
theorem DvL.at {k : Bool} : ∀ {vs : List V} {ds : List PyData} {i : Nat} {d : PyData}, DvL m z H k vs ds → ds[i]? = some d → ∃ v, vs[i]? = some v ∧ Dv m z H k v d
  | _, _, _, _, .nil, e => absurd e (by simp)
  | _, _, 0, _, .cons a _, e => by simp at e; subst e; exact ⟨_, rfl, a⟩
  | _, _, i + 1, _, .cons _ t, e => by
    obtain ⟨v, h1, h2⟩ := DvL.at (i := i) t (by simpa using e)
    exact ⟨v, by simpa using h1, h2⟩
theorem DvL.at' {k : Bool} : ∀ {vs : List V} {ds : List PyData} {i : Nat} {v : V}, DvL m z H k vs ds → vs[i]? = some v → ∃ d, ds[i]? = some d ∧ Dv m z H k v d
  | _, _, _, _, .nil, e => absurd e (by simp)
  | _, _, 0, _, .cons a _, e => by simp at e; subst e; exact ⟨_, rfl, a⟩
  | _, _, i + 1, _, .cons _ t, e => by
    obtain ⟨v, h1, h2⟩ := DvL.at' (i := i) t (by simpa using e)
    exact ⟨v, by simpa using h1, h2⟩
theorem DvL.app {k : Bool} : ∀ {vs ws : List V} {ds es : List PyData}, DvL m z H k vs ds → DvL m z H k ws es → DvL m z H k (vs ++ ws) (ds ++ es)
  | _, _, _, _, .nil, h => h
  | _, _, _, _, .cons a t, h => .cons a (t.app h)
theorem DvL.take {k : Bool} : ∀ {vs : List V} {ds : List PyData} (n : Nat), DvL m z H k vs ds → DvL m z H k (vs.take n) (ds.take n)
  | _, _, 0, _ => by rw [List.take_zero, List.take_zero]; exact .nil
  | _, _, _ + 1, .nil => .nil
  | _, _, n + 1, .cons a t => .cons a (t.take n)
theorem DvL.drop {k : Bool} : ∀ {vs : List V} {ds : List PyData} (n : Nat), DvL m z H k vs ds → DvL m z H k (vs.drop n) (ds.drop n)
  | _, _, 0, h => h
  | _, _, _ + 1, .nil => .nil
  | _, _, n + 1, .cons _ t => t.drop n
end
section
variable {X : Cx} {pins : List (Addr × Obj)} {σ : L2.St} {H : Hp} {s : Shared} {m : Bool} {z : Addr}
theorem vals_list {a : Addr} {xs : List V} (I : Inv X pins σ H s) (h : H a = some (.lst xs)) : ∃ o vs n, s.heap.get? a = some o ∧ o.cls = .type "list" ∧ o.data = .seq vs n ∧ Vals xs vs.toList := by
  obtain ⟨_, its, n, r, e⟩ := I.hok a _ h
  exact ⟨_, its.toArray, n, e, rfl, rfl, by simpa using r⟩
theorem TupAt.obj {k : Bool} {a : Addr} {xs : List V} (I : Inv X pins σ H s) (h : TupAt H k a xs) : xs.length ≤ sizeLine ∧ ∃ its : List Value, Vals xs its ∧ IsTup s.heap a its.toArray := by
  cases h with
  | frz h d => exact (I.hok _ _ h).2
  | big h l => exact I.hok _ _ h
  | any h => exact I.hok _ _ h
mutual
theorem Dv.rd (I : Inv X pins σ H s) : ∀ (k : Bool) (d : PyData) (v : V) (u : Value), Dv m z H k v d → RelV v u → ∃ as, Reads s.heap u d as ∧ (m = true → sysModules ∉ as)
  | _, .none, _, _, h, r => by cases h; cases r; exact ⟨_, .none, fun _ => List.not_mem_nil⟩
  | _, .bool b, _, _, h, r => by cases h; cases r; exact ⟨_, .bool b, fun _ => List.not_mem_nil⟩
  | _, .int i, _, _, h, r => by
    cases h
    obtain ⟨t, rfl⟩ := r
    exact ⟨_, .int i t, fun _ => List.not_mem_nil⟩
  | _, .str x, _, _, h, r => by
    cases h
    obtain ⟨t, rfl⟩ := r
    exact ⟨_, .str x t, fun _ => List.not_mem_nil⟩
  | _, .list ds, _, _, h, r => by
    cases h with
    | lst hm ne h t =>
      cases r
      obtain ⟨o, vs, n, e1, e2, e3, rv⟩ := vals_list I h
      obtain ⟨as, q, _⟩ := DvL.rd I _ ds _ _ t rv
      exact ⟨_, .list e1 e2 e3 q, fun e => absurd (hm.symm.trans e) (by decide)⟩
  | _, .tuple ds, _, _, h, r => by
    cases h with
    | tup ne h t =>
      cases r
      obtain ⟨_, its, rv, o, e1, e2, n, e3⟩ := h.obj I
      obtain ⟨as, q, kk⟩ := DvL.rd I _ ds _ its t rv
      exact ⟨_, .tuple e1 e2 e3 (by simpa using q), kk⟩
  | _, .dict kvs, _, _, h, r => by
    cases h with
    | @dct _ a hm ne h =>
      cases r
      obtain ⟨_, lo, vs, rel, o, es, n, e1, e2, e3, _, e4, _⟩ := I.hok _ _ h
      cases rel
      obtain ⟨l⟩ := es
      have e5 : l = [] := by
        cases l with
        | nil => rfl
        | cons x l => cases e4
      subst e5
      refine ⟨[a] ++ [], .dict (as := []) (bs := []) e1 e2.1 e3 .nil .nil, fun _ hm => ?_⟩
      rw [List.append_nil, List.mem_singleton] at hm
      subst hm
      simp at lo
theorem DvL.rd (I : Inv X pins σ H s) : ∀ (k : Bool) (ds : List PyData) (vs : List V) (us : List Value), DvL m z H k vs ds → Vals vs us → ∃ as, ReadsAll s.heap us ds as ∧ (m = true → sysModules ∉ as)
  | _, [], _, _, h, r => by cases h; cases r; exact ⟨_, .nil, fun _ => List.not_mem_nil⟩
  | _, d :: ds, _, _, h, r => by
    cases h with
    | cons a t =>
      cases r with
      | cons r1 r2 =>
        obtain ⟨as, q1, k1⟩ := Dv.rd I _ d _ _ a r1
        obtain ⟨bs, q2, k2⟩ := DvL.rd I _ ds _ _ t r2
        exact ⟨_, .cons q1 q2, fun e hm => (List.mem_append.mp hm).elim (k1 e) (k2 e)⟩
end
mutual
theorem Dv.nod (e : m = false) : ∀ (k : Bool) (d : PyData) (v : V), Dv m z H k v d → d.hasDict = false
  | _, .none, _, _ => by simp only [PyData.hasDict]
  | _, .bool _, _, _ => by simp only [PyData.hasDict]
  | _, .int _, _, _ => by simp only [PyData.hasDict]
  | _, .str _, _, _ => by simp only [PyData.hasDict]
  | _, .list ds, _, h => by
    cases h with
    | lst hm ne h t => simp only [PyData.hasDict]; exact DvL.nod e _ ds _ t
  | _, .tuple ds, _, h => by
    cases h with
    | tup ne h t => simp only [PyData.hasDict]; exact DvL.nod e _ ds _ t
  | _, .dict _, _, h => by
    cases h with
    | dct hm ne h => exact absurd (hm.symm.trans e) (by decide)
theorem DvL.nod (e : m = false) : ∀ (k : Bool) (ds : List PyData) (vs : List V), DvL m z H k vs ds → PyData.hasDictAll ds = false
  | _, [], _, _ => by simp only [PyData.hasDictAll]
  | _, d :: ds, _, h => by
    cases h with
    | cons a t => simp only [PyData.hasDictAll, Dv.nod e _ d _ a, DvL.nod e _ ds _ t, Bool.or_self]
end
/-- what can be written out -/
structure Shw (d : PyData) : Prop where
  sh : d.showable = true
  dp : d.depth ≤ 10
  sz : d.shown.length ≤ sizeLine
def rRepr : List V → Hp → VK → Prop := fun xs H Q => ∃ (m : Bool) (z : Addr) (v : V) (d : PyData), xs = [v] ∧ Dv m z H false v d ∧ Shw d ∧ Q (.str d.shown) H
theorem call_repr (hg : X.A.guards = some []) (hu : X.A.units + 64 < cLine) : CallR X (.builtin "repr") rRepr := by
  intro pins s σ H xs us Q I r h; skip
  obtain ⟨m, z, v, d, rfl, hd, S, q⟩ := h
  obtain ⟨u, rfl, ru⟩ := vals1 r; skip
  obtain ⟨as, rd, lo⟩ := Dv.rd I _ d v u hd ru
  have fin : ∀ (a : Addr), u = .ref a → wpAny (model X.prog X.w) X.A (call (.builtin "repr") [u]) (EP X pins σ Q) X.xe s := fun a e => by
    subst e
    refine repr_of_reads' rd S.sh (fun hd2 => ?_) hg (by have := S.dp; omega) (fun _ _ e => e) (fun h' w tk k => ?_) S.sz
    · cases m with
      | true => exact lo rfl
      | false => exact absurd (hd2.symm.trans (Dv.nod rfl _ d v hd)) (by decide)
    · exact ⟨.str d.shown, H, I.kept k, ⟨w, rfl⟩, q⟩
  cases rd with
  | none => exact P.repr_of_none ⟨.str _, H, I.tok _, ⟨_, rfl⟩, by simpa only [PyData.shown] using q⟩
  | bool b => exact P.repr_of_bool ⟨.str _, H, I.tok _, ⟨_, rfl⟩, by cases b <;> simpa only [PyData.shown] using q⟩
  | int i t =>
    have e : decide (i.natAbs.log2 < 1920) = true := by simpa only [PyData.showable] using S.sh
    exact P.repr_of_int (of_decide_eq_true e) ⟨.str _, H, I.tok _, ⟨_, rfl⟩, by simpa only [PyData.shown] using q⟩
  | str x t => exact P.repr_of_str ⟨.str _, H, I.tok _, ⟨_, rfl⟩, by simpa only [PyData.shown] using q⟩ (by simpa only [PyData.shown] using S.sz)
  | list => exact fin _ rfl
  | tuple => exact fin _ rfl
  | dict => exact fin _ rfl
end
end Pl

namespace Pl
open L2 PySem PySem.Spec PyProof.Rows
/-! ### a, b, *c = a tuple -/
theorem shiftW {prog : Program} {w : World} {A : Around} {I : Addr} {fp wr : List Addr} {G : Array GenState → Array GenState → Prop} {n : Nat} {P : Nat → Value → Prop} {St : Nat → Shared → Prop}
    (W : WalksS prog w A I fp wr G n P St) (k : Nat) (hk : k ≤ n) : WalksS prog w A I fp wr G (n - k) (fun i => P (i + k)) (fun i => St (i + k)) where
  sub := W.sub
  grefl := W.grefl
  gtrans := W.gtrans
  frame := fun i => W.frame (i + k)
  item := fun i s Q E hi st hQ => W.item (i + k) s Q E (by omega) st fun v s' hp hs hm => by
    have e : i + 1 + k = i + k + 1 := by omega
    have hs' : St (i + 1 + k) s' := by
      rw [e]
      exact hs
    exact hQ v s' hp hs' hm
  done := fun s Q E st hQ => by
    have e : n - k + k = n := by omega
    have st' : St (n - k + k) s := st
    rw [e] at st'
    exact W.done s Q E st' hQ
  self := fun i => W.self (i + k)
theorem items_eq {items : Array Value} {k : Nat} {acc : Array Value} (h : ItemsOf (fun i v => items[i + k]? = some v) acc (items.size - k)) : acc.toList = items.toList.drop k := by
  obtain ⟨h1, h2⟩ := h
  apply List.ext_getElem?
  intro i
  rw [List.getElem?_drop]
  cases e : acc[i]? with
  | some v =>
    have q := h2 i v e
    rw [Array.getElem?_toList, e, Array.getElem?_toList, Nat.add_comm k i]
    exact q.symm
  | none =>
    have q : acc.size ≤ i := by simpa using e
    rw [Array.getElem?_toList, e, Array.getElem?_toList]
    symm
    rw [Array.getElem?_eq_none_iff]
    omega
section
variable {prog : Program} {w : World} {s : Shared} {E : Value → Shared → Prop} {A : Around}
theorem unpack_star {t : Addr} {items : Array Value} {targets : List (Bool × (Value → Sem Unit))} {k : Nat} {Q : Unit → Shared → Prop} (hh : A.handled = none) (ht : s.heap.IsTuple t items)
    (hn : targets.length = k + 1) (hstar : targets.findIdx? (·.1) = some k) (hk : k ≤ items.size) (hz : items.size ≤ sizeLine)
    (h : ∀ (h2 : Heap) (tk : Nat), (∀ b o, s.heap.get? b = some o → h2.get? b = some o) →
      wpAny (model prog w) A (assignInOrder (targets.map (·.2)) (items.toList.take k ++ [.ref h2.objs.size])) Q E { s with heap := h2.push { cls := .type "list", data := .seq (items.toList.drop k).toArray }, toks := tk }) :
    (wpAny (model prog w) A (unpack (.ref t) targets) Q E s) := by
  have hlt : t ≠ s.heap.objs.size := by
    obtain ⟨o, ho, _⟩ := ht
    exact Nat.ne_of_lt (Heap.lt_size ho); skip
  unfold unpack
  rw [hn, hstar]
  refine wpAny_bind (wpAny_holding ?_); skip
  unfold unpackItems
  refine wpAny_bind ?_
  unfold notIterableAtAll
  refine wpAny_bind (wpAny_specialOf ht.typeIs slot_tuple_iter.lookup (wpAny_pure ?_))
  simp only [Bool.false_eq_true, if_false]; skip
  refine wpAny_bind (wpAny_holding (wpAny_pyIter_tuple ht ?_)); skip
  have W0 := (Walks.tuple (prog := prog) (w := w) (A := A.in1) hh s.heap.objs.size t hlt items).toS
  have i0 : (s.heap.push { cls := .type "tuple_iterator", data := .fields #[.ref t, .int 0 0] }).IsTupleIter s.heap.objs.size t 0 := ⟨_, Heap.get?_push_size _ rfl, rfl, rfl⟩
  refine wpAny_bind (wpAny_holding (wpAny_draw_tuple hlt k 0 _ _ i0 (ht.push _) (by omega) fun h1 it1 sb1 => ?_))
  have elen : (List.take k (List.drop 0 items.toList)).length = k := by
    rw [List.drop_zero, List.length_take, Array.length_toList]
    omega
  rw [if_neg (by rw [elen]; omega)]
  have ht1 : h1.IsTuple t items := (ht.push _).extBut sb1.extBut hlt
  have sz1 : s.heap.objs.size < h1.objs.size := by
    obtain ⟨o, ho, _⟩ := it1
    exact Heap.lt_size ho
  have hold : ∀ b o, s.heap.get? b = some o → h1.get? b = some o := fun b o e => by
    rw [sb1.2 b (Nat.ne_of_lt (Heap.lt_size e))]
    exact Heap.get?_push_of_some _ e; skip
  refine wpAny_bind (wpAny_holding (wpAny_collect_iter (T := "tuple_iterator") (.inr (.inr (.inr rfl))) (shiftW W0 k hk) (fun i s' st => st.1.typeIs) ⟨by simpa using it1, ht1⟩ (fun b hb => ?_) (List.mem_cons_self) (fun s2 acc mv it => ?_) (by omega)))
  · rcases List.mem_cons.mp hb with rfl | hb; skip
    · exact sz1
    · rcases List.mem_cons.mp hb with rfl | hb; skip
      · obtain ⟨o, ho, _⟩ := ht1
        exact Heap.lt_size ho
      · cases hb
  · have ea := items_eq it
    have keep2 : ∀ b o, s.heap.get? b = some o → s2.heap.get? b = some o := fun b o e => mv.heap b o (fun hb => absurd (Heap.lt_size e) ((List.mem_singleton.mp hb) ▸ Nat.lt_irrefl _)) (hold b o e)
    have e1 : k + 1 - 1 - k = 0 := by omega
    rw [e1, if_neg (Nat.not_lt_zero _), Nat.sub_zero]
    have e2 : List.take acc.toList.length acc.toList = acc.toList := List.take_length
    have e3 : List.drop acc.toList.length acc.toList = [] := List.drop_length
    rw [e2, e3]
    obtain ⟨hp2, g2, d2, t2, o2⟩ := s2
    obtain ⟨hp, g, d, t0, os⟩ := s
    obtain rfl : g2 = g := mv.gens
    obtain rfl : d2 = d := mv.drawn
    obtain rfl : o2 = os := mv.os
    refine wpAny_bind (wpAny_newList ?_ ?_)
    · refine wpAny_pure ?_
      rw [List.append_nil, List.drop_zero, ea]
      exact h hp2 t2 keep2
    · rw [ea, List.length_drop, Array.length_toList]
      omega
end
end Pl
namespace Pl
open L2 PySem PySem.Spec PyProof.Rows
section
variable {X : Cx}
theorem pgs_star {e : Expr} {es : List Expr} {t : TG} {u : TGs} {p : Pos} (h1 : PG X e t) (h2 : PGs X es u)
    (hs : (assignEach (.Starred e p :: es) X.env).map (·.2) = assign e X.env :: (assignEach es X.env).map (·.2) := by rfl) : PGs X (.Starred e p :: es) (gCons t u) :=
  ⟨fun pins s σ H vs us Q I r h => by
    obtain ⟨v, vr, rfl, h⟩ := h
    cases r with
    | cons r rr =>
      rw [hs]
      exact assignInOrder_cons (thn (h1.run pins s σ H _ _ _ I r h) fun _ s1 ⟨σ1, H1, I1, q1⟩ => h2.run pins s1 σ1 H1 _ _ Q I1 rr q1)⟩
def gStar (K : PySem.W.Frag) (k : Nat) (t : TGs) : TG := fun v σ H Q => ∃ a xs, v = .ref a ∧ SqT K H a xs ∧ k ≤ xs.length ∧ ∀ p, H p = none → t (xs.take k ++ [.ref p]) σ (upd H p (.lst (xs.drop k))) Q
theorem pg_star {es : List Expr} {j k : Nat} {t : TGs} {pos : Pos} (hc : X.calm = true) (h : PGs X es t) (hn : (assignEach es X.env).length = k + 1 := by rfl)
    (hst : (assignEach es X.env).findIdx? (·.1) = some k := by rfl) : PG X (.Tuple es j pos) (gStar X.K k t) := by
  refine ⟨fun pins s σ H v u Q I r hw => ?_⟩; skip
  obtain ⟨a, xs, rfl, hq, hl, hw⟩ := hw
  cases r
  obtain ⟨its, rv, ht, hz⟩ := I.tuple hq; skip
  rw [assign_Tuple]
  refine wpAny_bind (wpAny_standAt (unpack_star (I.ok.hd hc) ht hn hst (by rw [List.size_toArray, ← rv.length]; exact hl) (by rw [List.size_toArray, ← rv.length]; exact hz) fun h2 tk kp => ?_))
  have I2 : Inv X pins σ H { s with heap := h2, toks := tk } := I.kept kp
  have hf : H h2.objs.size = none := I2.hok.fresh (Nat.le_refl _)
  have rd : Vals (xs.drop k) (its.drop k) := rv.drop k
  have I3 : Inv X pins σ (upd H h2.objs.size (.lst (xs.drop k))) { s with heap := h2.push { cls := .type "list", data := .seq (its.drop k).toArray }, toks := tk } :=
    I2.laid (t' := tk) (fun b u e => Heap.get?_push_of_some _ e) (Nat.le_refl _) ⟨by rw [List.length_drop]; omega, _, 0, rd, Heap.get?_push_size _ rfl⟩
  exact h.run pins _ σ _ _ _ Q I3 ((rv.take k).append (.cons (show RelV (.ref h2.objs.size) (Value.ref h2.objs.size) from rfl) .nil)) (hw _ hf)
end
end Pl

namespace Pl
open L2 PySem PySem.Spec PyProof.Rows
section
variable {prog : Program} {w : World} {s : Shared} {E : Value → Shared → Prop} {A : Around}
/-- a tuple's items, gathered -/
theorem gather_tup {a : Addr} {xs : List Value} {Q : List Value → Shared → Prop} (ht : s.heap.IsTuple a xs.toArray) (hz : xs.length ≤ sizeLine)
    (q : Q xs { s with heap := (s.heap.push (seqObj "list" #[] 0)).update s.heap.objs.size (Obj.mapSeq (· ++ xs.toArray)) }) : wpAny (model prog w) A (collect (.ref a)) Q E s := by
  obtain ⟨ob, e1, e2, k, e3⟩ := id ht
  have e1' : (s.heap.push (seqObj "list" #[] 0)).get? a = some ob := Heap.get?_push_of_some _ e1
  have top : (s.heap.push (seqObj "list" #[] 0)).get? s.heap.objs.size = some (seqObj "list" #[] 0) := Heap.get?_push_size _ rfl
  unfold collect
  refine wpAny_bind (wpAny_runValue (codeAny_builtin entry_proto_collect' ?_)); skip
  show wpAny _ _ (newList [] >>= fun g => again (.builtin "list.__iadd__" ⟨[g, .ref a], []⟩)) _ _ s
  refine wpAny_bind (wpAny_newList (wpAny_pure ⟨Code.quiet_builtin _ (by decide +kernel), codeAny_builtin entry_list_iadd' ?_⟩)); skip
  have go : ∀ (P : PySem.Fin → Shared → Prop) (F : Value → Shared → Prop) (B : Around), P (.done (.ret (.ref s.heap.objs.size))) { s with heap := (s.heap.push (seqObj "list" #[] 0)).update s.heap.objs.size (Obj.mapSeq (· ++ xs.toArray)) } →
      wpAny (model prog w) B (Builtin.List.listExtendWith (.ref s.heap.objs.size) (.ref a) (.ref s.heap.objs.size)) P F { s with heap := s.heap.push (seqObj "list" #[] 0) } := by
    intro P F B hP
    unfold Builtin.List.listExtendWith; skip
    refine wpAny_bind (wpAny_typeOf (T := "tuple") ⟨ob, e1', e2⟩ ?_)
    have two : (Value.type "tuple" == Value.type "tuple") = true := by rfl
    rw [if_pos (by rw [two]; simp)]
    refine wpAny_bind (listItems_at e1' e3 ?_)
    refine wpAny_bind (listItems_at (xs := #[]) (n := 0) top rfl ?_)
    rw [if_neg (by simp)]
    refine wpAny_bind (listUpdate_at (xs := #[]) (n := 0) top rfl ?_ (Nat.zero_le _) (by
      show (#[] ++ xs.toArray).size ≤ sizeLine + 1
      rw [Array.size_append, List.size_toArray]
      show 0 + xs.length ≤ sizeLine + 1
      omega))
    exact wpAny_pure hP
  refine go _ _ _ ?_
  show wpAny (model prog w) A (load s.heap.objs.size >>= _) Q E _
  refine wpAny_bind (wpAny_load (get?_update_seq top _) ?_)
  have e : ((#[] : Array Value) ++ xs.toArray).toList = xs := by simp
  show wpAny _ _ (pure ((#[] : Array Value) ++ xs.toArray).toList) Q E _
  rw [e]
  exact wpAny_pure q
end
end Pl
namespace Pl
open PySem PySem.W PySem.Calls PyProof.Rows L2
section
variable {prog : Program} {w : World} {s : Shared} {E : Value → Shared → Prop} {A : Around}
/-- sorted(a tuple, ..) is the sort of a new list of its items -/
theorem tup_sorted {a : Addr} {xs : List Value} {kw : List (Str × Value)} {Q : Value → Shared → Prop} (ht : s.heap.IsTuple a xs.toArray) (hz : xs.length ≤ sizeLine) (ok1 : argsOk "sorted" ⟨[.ref a], kw⟩) (ok2 : ∀ y, argsOk "list.sort" ⟨[.ref y], kw⟩)
    (run : ∀ F : Value → Shared → Prop, wpAny (model prog w) A.in1.in1 (Builtin.«list.sort» ⟨[.ref (s.heap.objs.size + 1)], kw⟩) (fun f s' => f = .done (.ret .none) ∧ Q (.ref (s.heap.objs.size + 1)) s') F { s with heap := copyHeap s.heap xs }) :
    wpAny (model prog w) A (call (.builtin "sorted") [.ref a] kw) Q E s := by
  refine call_function_entry_kw kind_sorted plain_sorted entry_sorted ok1 ?_
  unfold Builtin.«sorted»
  refine wpAny_bind (m := checkCount "sorted" 1 1 _) (wpAny_pure ?_); skip
  refine wpAny_bind (gather_tup ht hz (wpAny_bind (wpAny_newList ?_ hz)))
  have n1 : ((s.heap.push (seqObj "list" #[] 0)).update s.heap.objs.size (Obj.mapSeq (· ++ xs.toArray))).objs.size = s.heap.objs.size + 1 := by
    rw [Heap.size_update]
    exact size_push' _ _
  show wpAny _ _ _ _ _ { s with heap := copyHeap s.heap xs }
  rw [n1]
  refine wpAny_bind (wpAny_holding (wpAny_call_entry_kw slot_list_sort ⟨_, copyHeap_at s.heap xs, rfl⟩ entry_list_sort ?go (ok2 _)))
  case go =>
    show wpAny (model prog w) A.in1.in1 (Builtin.«list.sort» ⟨[.ref (s.heap.objs.size + 1)], kw⟩) _ _ _; skip
    exact wpAny_mono (run _) (fun f s' ⟨e, q⟩ => ⟨.none, by rw [e], wpAny_pure ⟨_, rfl, q⟩⟩) fun _ _ e => e
section
variable {β : Type} {R : Value → β → Prop} {bs : List β} {vs : List Value}
theorem tup_sorted_data {enc : β → PyData} {a : Addr} {Q : Value → Shared → Prop} (ht : s.heap.IsTuple a vs.toArray) (e : EachIs R vs bs) (er : EachIs (fun v b => ∃ as, Reads s.heap v (enc b) as) vs bs) (hal : AllAlike (bs.map enc)) (hk : Sortable (bs.map enc)) (hL : bs.length ≤ sizeLine)
    (hu : ∀ b, b ∈ bs → A.units + 2 + (enc b).depth < cLine) (q : ∀ out, out.length = bs.length → EachIs R out (bs.mergeSort (dataLe false enc)) → Q (.ref (s.heap.objs.size + 1)) { s with heap := sortedAll s.heap vs (List.toArray out) }) :
    wpAny (model prog w) A (call (.builtin "sorted") [.ref a]) Q E s := by
  have up : EachIs (fun v b => ∃ as, Reads (sortingHeap (copyHeap s.heap vs) (s.heap.objs.size + 1) vs) v (enc b) as) vs bs := er.mono fun _ _ ⟨as, r⟩ => ⟨as, PyProof.Rows.Reads.keeps (fun _ _ => sorting_copy_old) r⟩
  have S := SortsAt.data (prog := prog) (w := w) (A := A.in1.in1) (s := { s with heap := sortingHeap (copyHeap s.heap vs) (s.heap.objs.size + 1) vs }) (each_map (R := fun v d => ∃ as, Reads (sortingHeap (copyHeap s.heap vs) (s.heap.objs.size + 1) vs) v d as) enc up) hal hk (bound_map hu)
  refine tup_sorted ht (by rw [e.length]; exact hL) (args_sorted1 _) (fun _ => args_list_sort _) fun F => ?_
  exact list_sort_vals (s := { s with heap := copyHeap s.heap vs }) (copyHeap_at s.heap vs) S (by rw [e.length]; exact hL) ⟨rfl, q _ (by rw [sortVals_length false rfl]; exact e.length) (sortVals_data false e up hal)⟩
theorem tup_sorted_key {a : Addr} {f : Addr} {Q : Value → Shared → Prop} (k : β → PyData) (ht : s.heap.IsTuple a vs.toArray) (e : EachIs R vs bs) (hal : AllAlike (bs.map k)) (hk : Sortable (bs.map k)) (hL : bs.length ≤ sizeLine)
    (hu : ∀ x, x ∈ bs → A.units + 2 + (k x).depth < cLine)
    (turn : ∀ (v : Value) (x : β), R v x → x ∈ bs → ∀ (h : Heap) (tk : Nat), (∀ c o, s.heap.get? c = some o → h.get? c = some o) →
      wpAny (model prog w) A.in1.in1 (call (.ref f) [v]) (KeyPure (k x) { s with heap := h, toks := tk }) (fun _ _ => False) { s with heap := h, toks := tk })
    (q : ∀ out c h' tk, (∀ b o, s.heap.get? b = some o → h'.get? b = some o) → h'.get? (s.heap.objs.size + 1) = some (seqObj "list" (List.toArray out) c) → out.length = bs.length → EachIs R out (bs.mergeSort (dataLe false k)) →
      (Q (.ref (s.heap.objs.size + 1)) { s with heap := h', toks := tk })) :
    wpAny (model prog w) A (call (.builtin "sorted") [.ref a] [(Str.ofString "key", .ref f)]) Q E s := by
  have up : ∀ {g : Heap}, KeepsBut (s.heap.objs.size + 1) (copyHeap s.heap vs) g → ∀ b o, s.heap.get? b = some o → g.get? b = some o := fun {g} kp b o x => kp b o (Nat.ne_of_lt (Nat.lt_succ_of_lt (Heap.lt_size x))) (copyHeap_old x)
  have zl : (bs.map k).length = vs.length := by
    rw [List.length_map]
    exact e.length.symm
  refine tup_sorted ht (by rw [e.length]; exact hL) (ksk_s1 _ _) (fun _ => ksk_l1 _ _) fun F => ?_
  rw [ksk_t1]
  refine keyH_tree (kz := bs.map k) (s := { s with heap := copyHeap s.heap vs }) (copyHeap_at s.heap vs) zl (by rw [e.length]; exact hL) hal hk (bound_map (A := A.in1.in1) hu)
    (keyH_turns (s := { s with heap := copyHeap s.heap vs }) e fun v x r m h tk kp => turn v x r m h tk (up kp)) fun h' tk out c kp hD ko => ⟨rfl, ?_⟩
  exact q out c h' tk (up kp) hD ((ko.length zl).trans e.length) (keyedOut_each k ko e)
end
end
end Pl

namespace Pl
open PySem PySem.Spec PyProof.Rows L2 PySem.W
def encP (p : Str × Int) : PyData := .tuple [.str p.1, .int p.2]
/-- a pair: where it stands, its name and value -/
abbrev PB := V × (Str × Int)
def leP : PB → PB → Bool := dataLe false fun b => encP b.2
def leN : PB → PB → Bool := dataLe false fun b => .str b.2.1
def Prs (m : Bool) (z : Addr) (H : Hp) (bs : List PB) : Prop := ∀ b ∈ bs, Dv m z H true b.1 (encP b.2)
theorem each_of : ∀ {bs : List PB} {us : List Value}, Vals (bs.map (·.1)) us → EachIs (fun (u : Value) (b : PB) => RelV b.1 u) us bs
  | [], _, .nil => .nil
  | _ :: _, _, .cons r t => .cons r (each_of t)
theorem vals_of : ∀ {bs : List PB} {us : List Value}, EachIs (fun (u : Value) (b : PB) => RelV b.1 u) us bs → Vals (bs.map (·.1)) us
  | _, _, .nil => .nil
  | _, _, .cons r t => .cons r (vals_of t)
theorem each_in {α β : Type} {R S : α → β → Prop} : ∀ {as : List α} {bs : List β}, EachIs R as bs → (∀ a b, b ∈ bs → R a b → S a b) → EachIs S as bs
  | _, _, .nil, _ => .nil
  | _, _, .cons r t, h => .cons (h _ _ (List.mem_cons_self) r) (each_in t fun a b m => h a b (List.mem_cons_of_mem _ m))
theorem alike_P (bs : List PB) : AllAlike (bs.map fun b => encP b.2) := AllAlike.of fun _ _ => by simp [encP, alike, alikeAll]
theorem alike_N (bs : List PB) : AllAlike (bs.map fun b => PyData.str b.2.1) := AllAlike.of fun _ _ => by simp [alike]
section
variable {X : Cx} {pins : List (Addr × Obj)} {σ : L2.St} {H : Hp} {s : Shared} {m : Bool} {z : Addr}
def rSortP : List V → Hp → VK → Prop := fun xs H Q => ∃ (m : Bool) (z a : Addr) (bs : List PB), xs = [.ref a] ∧ TupAt H true a (bs.map (·.1)) ∧ Prs m z H bs ∧ ∀ p, H p = none → Q (.ref p) (upd H p (.lst ((bs.mergeSort leP).map (·.1))))
theorem cr_sortP (hu : X.A.units + 64 < cLine) : CallR X (.builtin "sorted") rSortP := by
  intro pins s σ H xs us Q I r h; skip
  obtain ⟨m, z, a, bs, rfl, ha, hp, q⟩ := h
  obtain rfl := Vals.ref1 r
  obtain ⟨its, rv, ht, hz⟩ := I.tuple ha.sq
  have e := each_of rv
  have er : EachIs (fun (v : Value) (b : PB) => ∃ as, Reads s.heap v (encP b.2) as) its bs := each_in e fun u b mb r => by
    obtain ⟨as, rd, _⟩ := Dv.rd I _ _ _ u (hp b mb) r
    exact ⟨as, rd⟩
  have hz' : bs.length ≤ sizeLine := by
    rw [List.length_map] at hz
    exact hz
  refine tup_sorted_data (enc := fun b : PB => encP b.2) ht e er (alike_P bs) (Sortable.tuples fun _ => ⟨_, _, rfl⟩) hz' (fun b _ => ?_) fun out lo eo => ?_
  · have hd : (encP b.2).depth = 1 := by simp [encP, PyData.depth, PyData.depthAll]
    omega
  · obtain ⟨ep, he⟩ := PyProof.Rows.sortedAll_at s.heap its (List.toArray out)
    have rv2 := vals_of eo
    have hlen : ((bs.mergeSort leP).map (·.1)).length ≤ sizeLine := by
      rw [List.length_map, (List.mergeSort_perm _ _).length_eq]
      exact hz'
    exact ⟨.ref _, upd H (s.heap.objs.size + 1) (.lst ((bs.mergeSort leP).map (·.1))), I.laid (t' := s.toks) (fun _ _ => PyProof.Rows.sortedAll_old) (Nat.le_succ _) ⟨hlen, out, ep, rv2, he⟩, rfl, q _ (I.hok.fresh (Nat.le_succ _))⟩
end
end Pl

namespace Pl
open PySem PySem.Spec PyProof.Rows L2 PySem.W
/-- the lambda's text: x: x[0] -/
structure LamT (x : Str) (params : Arguments) (body : Expr) (scope : Scope) : Prop where
  co : (scope.isCoroutine = false)
  gen : (scope.isGenerator = false)
  kind : scope.kind = .function
  names : scope.names = [(x, .local)]
  bind : ∀ (q : Str) (cl : List (Str × Addr)) (pm cv ctv v : Value), bindArgs (kla_fn "<lambda>" q params body scope cl pm cv ctv) ⟨[v], []⟩ = pure [(x, v)]
  body : ∃ p1 p2 p3 j, body = .Subscript (.Name x p1) (.Constant (.int 0) j p2) p3
  db : (x == ("__debug__" : Str)) = false
section
variable {X : Cx} {s : Shared} {pins : List (Addr × Obj)} {H : Hp} {σ : L2.St}
theorem lam_turn {prog : Program} {w : World} {A : Around} {x q : Str} {params : Arguments} {body : Expr} {scope : Scope} (L : LamT x params body scope) (hd : A.depth < recursionLimit) {s : Shared} {f c' t : Addr} {cl : List (Str × Addr)} {pm ctv : Value} {nm : Str} {n : Int} {as : List Addr}
    (hlim : s.heap.NoLimit) (hf : s.heap.get? f = some (kla_obj "<lambda>" q params body scope cl pm c' ctv)) (hc : ∃ (oc : Obj) (vs : Array Value) (t : Tok), s.heap.get? c' = some oc ∧ oc.data = .fields vs ∧ vs[1]? = some (.str q t))
    (hr : Reads s.heap (.ref t) (encP (nm, n)) as) : wpAny (model prog w) A (call (.ref f) [.ref t]) (KeyPure (.str nm) s) (fun _ _ => False) s := by
  obtain ⟨oc, vs, tk, hoc, hdc, hvc⟩ := hc
  refine wpAny_call (kla_callFunE hd hf rfl L.co L.gen rfl ⟨c', oc, vs, tk, rfl, hoc, hdc, hvc⟩ ?_)
  rw [L.bind]
  refine wpAny_pure (wpAny_newFunctionEnv (fun y hy => ?_) (fun y hy => ?_) (fun h1 hns hsb => ?_) L.kind)
  · rw [L.names, List.mem_singleton] at hy
    rw [hy]
    exact fun z => by cases z
  · rw [List.mem_singleton] at hy
    rw [hy]
    show scope.names.lookup x = some .local
    rw [L.names]
    simp [List.lookup]
  · have kp : ∀ b o, s.heap.get? b = some o → h1.get? b = some o := fun b o e => hsb.extBut b o (Nat.ne_of_lt (Heap.lt_size e)) (Heap.get?_push_of_some _ e)
    refine ⟨hlim.keeps kp, kla_codeExpr ?_⟩
    obtain ⟨p1, p2, p3, j, rfl⟩ := L.body
    refine Subscript_ (wpAny_Name (wpAny_loadName_local L.kind (by show scope.names.lookup x = some .local; rw [L.names]; simp [List.lookup]) hns (v := .ref t) (by simp [List.lookup]) ?_) L.db)
    refine wpAny_Constant_int ?_
    cases hr with
    | @tuple a o its k xs as h1' h2 h3 h4 =>
      obtain ⟨l⟩ := its
      have h5 : ReadsAll s.heap l [.str nm, .int n] as := h4
      cases h5 with
      | @cons v vs' d ds as1 bs1 r1 r2 =>
        cases r1 with
        | str y tk2 =>
          cases r2 with
          | cons r3 r4 =>
            cases r4
            refine item_tuple (j := 0) (x := .str nm tk2) ⟨o, kp _ _ h1', h2, k, h3⟩ (by decide) (by decide) (by rfl) (by rfl) ?_
            exact ⟨h1, _, rfl, kp, .str nm tk2⟩
/-- sorted(e, key=lambda x: x[0]) -/
def tSortLam (P : Addr) (q : Str) (te : TE) : TE := fun σ H Q => te σ H fun v H1 => LamX.Tabs [(P, q)] H1 ∧ ∃ (m : Bool) (z a : Addr) (bs : List PB), v = .ref a ∧ TupAt H1 true a (bs.map (·.1)) ∧ Prs m z H1 bs ∧
  ∀ H2 p, LamX.ExtN H1 H2 → LamX.Tabs [(P, q)] H2 → H2 p = none → Q (.ref p) (upd H2 p (.lst ((bs.mergeSort leN).map (·.1))))
section
variable {m : Bool} {z : Addr} {H G : Hp}
theorem TupAt.ext {k : Bool} {a : Addr} {xs : List V} (e : LamX.ExtN H G) (h : TupAt H k a xs) : TupAt G k a xs := by
  cases h with
  | frz h d => exact .frz (e _ _ h fun _ z => by cases z) d
  | big h l => exact .big (e _ _ h fun _ z => by cases z) l
  | any h => exact .any (e _ _ h fun _ z => by cases z)
mutual
theorem Dv.ext (e : LamX.ExtN H G) : ∀ (k : Bool) (d : PyData) (v : V), Dv m z H k v d → Dv m z G k v d
  | _, .none, _, h => by cases h; exact .non
  | _, .bool _, _, h => by cases h; exact .bl _
  | _, .int _, _, h => by cases h; exact .int _
  | _, .str _, _, h => by cases h; exact .str _
  | _, .list ds, _, h => by
    cases h with
    | lst hm ne h t => exact .lst hm ne (e _ _ h fun _ z => by cases z) (DvL.ext e _ ds _ t)
  | _, .tuple ds, _, h => by
    cases h with
    | tup ne h t => exact .tup ne (h.ext e) (DvL.ext e _ ds _ t)
  | _, .dict _, _, h => by
    cases h with
    | dct hm ne h => exact .dct hm ne (e _ _ h fun _ z => by cases z)
theorem DvL.ext (e : LamX.ExtN H G) : ∀ (k : Bool) (ds : List PyData) (vs : List V), DvL m z H k vs ds → DvL m z G k vs ds
  | _, [], _, h => by cases h; exact .nil
  | _, d :: ds, _, h => by
    cases h with
    | cons a t => exact .cons (Dv.ext e _ d _ a) (DvL.ext e _ ds _ t)
end
end
theorem pe_sortLam {e : Expr} {te : TE} {x : Str} {params : Arguments} {body : Expr} {scope : Scope} {c P : Addr} {p lpos kpos pos : Pos} (L : LamT x params body scope) (hg : Gl X "sorted") (hm : X.mg "sorted" = none) (he : PE X e te) (TB : LamX.TabB X.base X.mg c P)
    (hcode : X.env.code = .ref c) (hr : Room 2 X.A) (hdef : defaultsOf params X.env = ([], []) := by rfl)
    (hst : backTo pos (starEach [e] X.env) = (false, eval e X.env) :: backTo pos (starEach [] X.env) := by rfl) (hpl : (backTo pos (starEach [e] X.env)).any (·.1) = false := by rfl) :
    PE X (.Call (.Name "sorted" p) [e] [⟨some "key", .Lambda params body scope lpos, kpos⟩] pos) (tSortLam P (X.env.qual ++ "<lambda>") te) := by
  refine ⟨fun pins s σ H Q I h => ?_⟩; skip
  refine wpAny_Call_Name_kw (ld_blt I hg hm boot_sorted ?_)
  refine PyProof.Rows.callWith_kw ?_ hst hpl (by rfl) (by rfl)
  rw [hst]
  refine Calls.spliced_cons (thn (he.run pins s σ H _ I h) fun v s1 ⟨w, H1, I1, r1, hT, m, z, a, bs, e1, ha, hp, q⟩ => Calls.spliced_nil ?_)
  subst e1
  obtain rfl : v = Value.ref a := r1; skip
  show wpAny _ _ (evalAll [do let v ← eval (.Lambda params body scope lpos) X.env; standAt pos; pure v]) _ _ s1
  refine wpAny_evalAll_cons (wpAny_bind (LamX.lam_make2 (T := [(P, X.env.qual ++ "<lambda>")]) (c := c) (P := P) I1 TB hcode (List.mem_singleton.mpr rfl) (fun pp hpp _ => by
    rw [List.mem_singleton] at hpp
    rw [hpp]) hT hdef (fun y hy hfr => ?_) fun f c' pm ctv H2 s2 I2 eN T2 hf hfn _ hco => ?_))
  · rw [L.names, List.mem_singleton] at hy
    rw [hy] at hfr
    cases hfr
  refine wpAny_bind (wpAny_standAt (wpAny_pure (wpAny_evalAll_nil ?_)))
  show wpAny _ _ (call (.builtin "sorted") [.ref a] [(Str.ofString "key", .ref f)]) _ _ s2
  obtain ⟨⟨oc, vs, t, hoc, hdc, hvc⟩, _, _⟩ := I2.hok c' _ hco
  have ha2 : TupAt H2 true a (bs.map (·.1)) := ha.ext eN
  have hp2 : Prs m z H2 bs := fun b mb => Dv.ext eN _ _ _ (hp b mb)
  obtain ⟨its, rv, ht, hz⟩ := I2.tuple ha2.sq
  have ee := each_of rv
  have hz' : bs.length ≤ sizeLine := by
    rw [List.length_map] at hz
    exact hz
  have lim2 := I2.nolimit
  have hdp := hr.dp
  have hun := hr.un
  refine tup_sorted_key (fun b : PB => .str b.2.1) ht ee (alike_N bs) (Sortable.others fun _ => ⟨(fun z => by cases z), fun _ z => by cases z⟩) hz' (fun b _ => ?_) (fun v b rb mb h tk kp => ?_) fun out k h' tk kp hl lo eo => ?_
  · show X.A.units + 2 + (PyData.str b.2.1).depth < cLine
    have hd : (PyData.str b.2.1).depth = 0 := by simp [PyData.depth]
    rw [hd]
    omega
  · obtain ⟨as, rd, _⟩ := Dv.rd I2 _ _ _ v (hp2 b mb) rb
    have hb := hp2 b mb
    have e3 : ∃ t, v = .ref t := by
      obtain ⟨bv, bp⟩ := b
      have hb' : Dv m z H2 true bv (.tuple [.str bp.1, .int bp.2]) := hb
      cases hb' with
      | tup ne hh tt => exact ⟨_, rb⟩
    obtain ⟨tt, rfl⟩ := e3
    exact lam_turn (s := { s2 with heap := h, toks := tk }) (A := X.A.in1.in1) L (by show X.A.depth < recursionLimit; omega) (lim2.keeps kp) (kp _ _ hf) ⟨oc, vs, t, kp _ _ hoc, hdc, hvc⟩ (PyProof.Rows.Reads.keeps kp rd)
  · have rv2 := vals_of eo
    have hlen : ((bs.mergeSort leN).map (·.1)).length ≤ sizeLine := by
      rw [List.length_map, (List.mergeSort_perm _ _).length_eq]
      exact hz'
    have new : H2 (s2.heap.objs.size + 1) = none := I2.hok.fresh (Nat.le_succ _)
    exact ⟨.ref _, upd H2 (s2.heap.objs.size + 1) (.lst ((bs.mergeSort leN).map (·.1))), I2.laid (t' := tk) kp (Nat.le_succ _) ⟨hlen, out, k, rv2, hl⟩, rfl, q H2 _ eN T2 new⟩
end
end Pl

namespace Pl
open PySem PySem.Spec PyProof.Rows L2 PySem.W
/-! ### set(a list of ints and texts) -/
def hasK (x : Key) (l : List Key) : Bool := l.any fun y => decide (y = x)
theorem hasK_iff {x : Key} {l : List Key} : hasK x l = true ↔ x ∈ l := by
  unfold hasK
  rw [List.any_eq_true]
  constructor
  · rintro ⟨y, h, e⟩
    rw [← of_decide_eq_true e]
    exact h
  · exact fun h => ⟨x, h, decide_eq_true rfl⟩
def dst (l : List Key) : List Key := l.foldl (fun acc x => if hasK x acc = true then acc else acc ++ [x]) []
theorem dst_snoc (l : List Key) (x : Key) : dst (l ++ [x]) = if hasK x (dst l) = true then dst l else dst l ++ [x] := by
  unfold dst
  rw [List.foldl_append]
  rfl
theorem snoc_ind {α : Type} {p : List α → Prop} (h0 : p []) (h1 : ∀ l x, p l → p (l ++ [x])) : ∀ l, p l := fun l => by
  have : ∀ r : List α, p r.reverse := fun r => by
    induction r with
    | nil => exact h0
    | cons a r ih => rw [List.reverse_cons]; exact h1 _ _ ih
  have q := this l.reverse
  rwa [List.reverse_reverse] at q
theorem mem_dst (x : Key) : ∀ l : List Key, x ∈ dst l ↔ x ∈ l := by
  refine snoc_ind (by simp [dst]) fun l y ih => ?_
  rw [dst_snoc]
  split
  · rename_i h
    rw [List.mem_append, List.mem_singleton, ih]
    constructor
    · exact .inl
    · rintro (h1 | h1)
      · exact h1
      · subst h1
        exact ih.mp (hasK_iff.mp h)
  · rw [List.mem_append, List.mem_append, ih]
theorem dst_le : ∀ l : List Key, (dst l).length ≤ l.length := by
  refine snoc_ind (by simp [dst]) fun l y ih => ?_
  rw [dst_snoc, List.length_append]
  split
  · simp; omega
  · rw [List.length_append]; simp; omega; skip
theorem dst_nodup : ∀ l : List Key, (dst l).length = l.length ↔ l.Nodup := by
  refine snoc_ind (by simp [dst]) fun l y ih => ?_
  rw [dst_snoc, List.length_append, List.nodup_append]
  have le := dst_le l
  split
  · rename_i h
    constructor
    · intro e
      simp at e
      omega
    · rintro ⟨_, _, e⟩
      exact absurd rfl (e y ((mem_dst y l).mp (hasK_iff.mp h)) y (List.mem_singleton.mpr rfl))
  · rename_i h
    rw [List.length_append, List.length_singleton]; skip
    constructor
    · intro e
      refine ⟨ih.mp (by omega), by simp, fun a ha b hb q => ?_⟩
      rw [List.mem_singleton] at hb
      subst hb
      subst q
      exact h (hasK_iff.mpr ((mem_dst _ l).mpr ha))
    · rintro ⟨e, _⟩
      have := ih.mpr e
      omega
section
variable {prog : Program} {w : World} {I : Addr} {fp wr : List Addr} {G : Array GenState → Array GenState → Prop} {n : Nat} {P : Nat → Value → Prop} {St : Nat → Shared → Prop}
/-- the keys at i and on are put in -/
theorem fill_set (S : Addr) (ks : List Key) (hn : ks.length = n) (hb : n + 1 < scanBound) (hP : ∀ i v, P i v → ∃ k, ks[i]? = some k ∧ RelV (kV k) v) :
    ∀ (j i : Nat) (A : Around) (R : Result → Shared → Prop) (s : Shared) (W : WalksS prog w A.in1 I fp wr G n P St), S ∉ fp → n - i = j → i ≤ n → St i s →
      s.heap.SetOf (mixKind prog w) S (fun k => hasK k (ks.take i)) (dst (ks.take i)).length →
      (∀ s', Moved (S :: wr) G s s' → s'.heap.SetOf (mixKind prog w) S (fun k => hasK k ks) (dst ks).length → R (.ok (.ret .none)) s') →
      (codeAny (model prog w) A (.builtin "set.update.loop" ⟨[.ref S, .ref I], []⟩) R s) := by
  intro j
  induction j with
  | zero =>
    intro i A R s W hS hj hi st so hR
    obtain rfl : i = n := by omega
    rw [← hn, List.take_length] at so
    have nw : S ∉ wr := fun h => hS (W.sub _ h)
    refine codeAny_builtin F.entry_set_update_loop ?_; skip
    rw [Around.under_plainId F.plain_set_update_loop _]; skip
    show wpAny _ A.in1 (pyNext (.ref I) >>= _) _ _ s; skip
    refine wpAny_bind (W.done s _ _ st fun s' mv => wpAny_pure (hR s' (mv.mono fun b hb => List.mem_cons_of_mem _ hb) ?_))
    obtain ⟨o, es, ep, t, ho, r⟩ := so
    exact ⟨o, es, ep, t, mv.heap S _ nw ho, r⟩
  | succ j ih =>
    intro i A R s W hS hj hi st so hR
    have nw : S ∉ wr := fun h => hS (W.sub _ h)
    have lt : i < n := by omega
    refine codeAny_builtin F.entry_set_update_loop ?_; skip
    rw [Around.under_plainId F.plain_set_update_loop _]; skip
    show wpAny _ A.in1 (pyNext (.ref I) >>= _) _ _ s; skip
    refine wpAny_bind (W.item i s _ _ lt st fun v s' pv st' mv => ?_)
    obtain ⟨k, ek, rk⟩ := hP i v pv
    have so' : s'.heap.SetOf (mixKind prog w) S (fun k => hasK k (ks.take i)) (dst (ks.take i)).length := by
      obtain ⟨o, es, ep, t, ho, r⟩ := so
      exact ⟨o, es, ep, t, mv.heap S _ nw ho, r⟩
    show wpAny _ A.in1 (holding [v] (setAdd S v) >>= _) _ _ s'
    refine wpAny_bind (wpAny_holding ?_); skip
    unfold setAdd
    refine wpAny_holding (wpAny_bind ((mixKind prog w).pyHash (k := k) (kV_is rk) ?_))
    have room : (dst (ks.take i)).length + 1 < scanBound := by
      have h1 := dst_le (ks.take i)
      rw [List.length_take] at h1
      omega
    refine wpAny_setAddHashed_of (knd := mixKind prog w) (s := { s' with toks := s'.toks + 1 }) (kV_is rk) (key_scan rk) so' room fun h' sb so2 => ?_
    have e1 : ks.take (i + 1) = ks.take i ++ [k] := by
      rw [List.take_add_one, ek]
      rfl
    have eS : (fun k' => hasK k' (ks.take i) || decide (k' = k)) = fun k' => hasK k' (ks.take (i + 1)) := funext fun k' => by
      rw [e1]
      unfold hasK
      rw [List.any_append]
      have e2 : (decide (k = k')) = decide (k' = k) := by
        by_cases q : k = k'
        · rw [decide_eq_true q, decide_eq_true q.symm]
        · rw [decide_eq_false q, decide_eq_false fun z => q z.symm]
      simp only [List.any_cons, List.any_nil, Bool.or_false]
      rw [e2]
    have eN : (if hasK k (ks.take i) = true then (dst (ks.take i)).length else (dst (ks.take i)).length + 1) = (dst (ks.take (i + 1))).length := by
      rw [e1, dst_snoc]
      have e2 : hasK k (dst (ks.take i)) = hasK k (ks.take i) := by
        rw [Bool.eq_iff_iff, hasK_iff, hasK_iff]
        exact mem_dst k _
      rw [e2]
      split
      · rfl
      · rw [List.length_append, List.length_singleton]; skip
    have so3 : h'.SetOf (mixKind prog w) S (fun k' => hasK k' (ks.take (i + 1))) (dst (ks.take (i + 1))).length := by
      rw [← eS, ← eN]
      exact so2
    have sub' : ∀ b, b ∉ S :: wr → b ≠ S := fun b h q => h (by rw [q]; exact List.mem_cons_self)
    refine wpAny_pure ⟨plainId_quiet F.plain_set_update_loop _, ih (i + 1) A R _ W hS (by omega) lt (W.frame _ s' _ _ st' (Nat.le_succ _) fun b hb o e => ?_) so3 fun s2 mv2 so4 => ?_⟩
    · rw [sb.2 b (fun q => hS (by rw [← q]; exact hb))]
      exact e
    · refine hR s2 (Moved.trans W.gtrans ((mv.mono fun b hb => List.mem_cons_of_mem _ hb).then_heap (Nat.le_succ _) fun b o hb e => ?_) mv2) so4
      rw [sb.2 b (sub' b hb)]
      exact e
end
end Pl

namespace Pl
open PySem PySem.Spec PyProof.Rows L2 PySem.W
section
variable {prog : Program} {w : World} {s : Shared} {E : Value → Shared → Prop} {A : Around}
theorem set_list {l : Addr} {items : Array Value} {ks : List Key} {Q : Value → Shared → Prop} (hh : A.handled = none) (hl : s.heap.IsList l items) (rv : Vals (ks.map kV) items.toList) (hb : items.size + 1 < scanBound)
    (q : ∀ (g : Heap) (tk : Nat), g.SetOf (mixKind prog w) s.heap.objs.size (fun k => hasK k ks) (dst ks).length → (∀ b o, b < s.heap.objs.size → s.heap.get? b = some o → g.get? b = some o) → Q (.ref s.heap.objs.size) { s with heap := g, toks := tk }) :
    (wpAny (model prog w) A (call (.type "set") [.ref l]) Q E s) := by
  have hsz : ks.length = items.size := by
    have e := rv.length
    rw [List.length_map, Array.length_toList] at e
    exact e
  obtain ⟨c, tl, hmro⟩ := PySem.F.called_set.mro; skip
  have a1 := PySem.F.called_set.made
  have a2 := PySem.F.called_set.sub
  have a3 := PySem.F.called_set.notType
  have a4 := PySem.F.called_set.canCreate
  have a5 := PySem.F.typeCall_set_1 (.ref l)
  refine wpAny_call (codeAny_of_tree ?_); skip
  show wpAny _ _ (callAny (.type "set") _) _ _ _; skip
  refine wpAny_pure ⟨Code.quiet_builtin _ (by decide +kernel), codeAny_builtin PySem.F.entry_type_call ?_⟩; skip
  rw [Around.under_plain (weight_type_call_type "set" [.ref l] []) rfl]; skip
  repeat (any_goals (first | assumption | wp_step)); skip
  refine codeAny_mono (code_set_new_1 (.ref l) (E := E) (Q₁ := fun ob t => ∃ led : Bool, ob = .ref s.heap.objs.size ∧ t = { s with heap := s.heap.push { cls := .type "set", dict := none, data := .set #[] 0 (.fresh 0 0 led) } }) fun led => ⟨led, rfl, rfl⟩) fun r t hr => ?_
  match r, hr with
  | .error e, hr => exact hr
  | .ok (.ret ob), ⟨led, e1, e2⟩ =>
    subst e1
    subst e2
    have new : (s.heap.push { cls := .type "set", dict := none, data := .set #[] 0 (.fresh 0 0 led) }).get? s.heap.objs.size = some { cls := .type "set", dict := none, data := .set #[] 0 (.fresh 0 0 led) } := Heap.get?_push_size _ rfl
    have ty : Shared.TypeIs { s with heap := s.heap.push { cls := .type "set", dict := none, data := .set #[] 0 (.fresh 0 0 led) } } (.ref s.heap.objs.size) "set" := ⟨_, new, rfl⟩
    have b1 := PySem.F.called_set.init.lookup
    have b2 := PySem.F.called_set.init.bind (.ref s.heap.objs.size)
    repeat (any_goals (first | assumption | wp_step)); skip
    refine codeAny_mono (codeAny_call_builtin (R := wants (fun r t => r = .none ∧ ∃ g tk, t = { s with heap := g, toks := tk } ∧ g.SetOf (mixKind prog w) s.heap.objs.size (fun k => hasK k ks) (dst ks).length ∧
      (∀ b o, b < s.heap.objs.size → s.heap.get? b = some o → g.get? b = some o)) E) PySem.F.called_set.init.plain PySem.F.entry_set_init (check_set_init_1 ty ?_)) fun r2 t2 hr2 => ?_
    · obtain ⟨o, ho, hc, k, hd⟩ := hl
      obtain ⟨oc, od, odt, osl⟩ := o; skip
      simp only at hc hd
      subst hc
      subst hd
      have ho' : (s.heap.push { cls := .type "set", dict := none, data := .set #[] 0 (.fresh 0 0 led) }).get? l = some { cls := .type "list", dict := od, data := .seq items k, slots := osl } := Heap.get?_push_of_some _ ho
      have c1 := PySem.F.sub_list_set
      have c2 := PySem.F.sub_list_frozenset
      have c3 : (Value.type "list" == Value.type "dict") = false := by decide
      have il : (s.heap.push { cls := .type "set", dict := none, data := .set #[] 0 (.fresh 0 0 led) }).IsList l items := ⟨_, ho', rfl, k, rfl⟩
      unfold Builtin.«set.__init__» noKeywords Builtin.Frozenset.updateFrom; skip
      generalize hPI : pyIter = PI
      wp_walk
      subst hPI
      refine wpAny_pyIter_list il (wpAny_bind (wpAny_runValue ?_))
      have lt : l < s.heap.objs.size := Heap.lt_size ho
      have nI : l ≠ (s.heap.push { cls := .type "set", dict := none, data := .set #[] 0 (.fresh 0 0 led) }).objs.size := by
        rw [Heap.size_push]
        exact Nat.ne_of_lt (Nat.lt_succ_of_lt lt)
      have nS : s.heap.objs.size ∉ [(s.heap.push { cls := .type "set", dict := none, data := .set #[] 0 (.fresh 0 0 led) }).objs.size, l] := by
        rw [Heap.size_push, List.mem_cons, List.mem_singleton]
        rintro (z | z)
        · exact absurd z (Nat.ne_of_lt (Nat.lt_succ_self _))
        · exact absurd z (Nat.ne_of_gt lt)
      refine fill_set (n := items.size) s.heap.objs.size ks hsz hb (fun i v hv => ?_) (items.size - 0) 0 _ _ _ ((Walks.list (by simpa using hh) _ l nI items).toS) nS (by omega) (Nat.zero_le _) ⟨⟨_, Heap.get?_push_size _ rfl, rfl, rfl⟩, il.push _⟩ ?_ fun t mv so => ?_
      · have hv' : items.toList[i]? = some v := by
          rw [Array.getElem?_toList]
          exact hv
        cases e : (ks.map kV)[i]? with
        | none =>
          have := rv.none_of e
          rw [hv'] at this
          cases this
        | some y =>
          obtain ⟨u, h1, h2⟩ := rv.get e
          rw [hv'] at h1
          cases h1
          rw [List.getElem?_map] at e
          cases e3 : ks[i]? with
          | none =>
            rw [e3] at e
            cases e
          | some kk =>
            rw [e3] at e
            cases e
            exact ⟨kk, rfl, h2⟩
      · have g0 : ((s.heap.push { cls := .type "set", dict := none, data := .set #[] 0 (.fresh 0 0 led) }).push { cls := .type "list_iterator", data := .fields #[.ref l, .int 0 0] }).get? s.heap.objs.size = some { cls := .type "set", dict := none, data := .set #[] 0 (.fresh 0 0 led) } := Heap.get?_push_of_some _ new
        exact ⟨_, #[], 0, _, g0, ⟨rfl, rfl, rfl⟩, rfl, (fun e he => by simp at he), (fun k => by simp [hasK]), (by decide), (by rfl), rfl⟩
      · obtain ⟨g, gs, d, tk, os⟩ := t
        obtain rfl : gs = s.gens := mv.gens
        obtain rfl : d = s.drawn := mv.drawn
        obtain rfl : os = s.os := mv.os
        show wpAny _ _ _ _ _ _
        refine wpAny_pure ?_
        show wpAny _ _ (ret Value.none) _ _ _; skip
        refine wpAny_pure ⟨rfl, g, tk, rfl, so, fun b o hb e => mv.heap b o (fun hm => ?_) (Heap.get?_push_of_some _ (Heap.get?_push_of_some _ e))⟩
        rw [Heap.size_push, List.mem_cons, List.mem_cons, List.mem_nil_iff] at hm
        rcases hm with z | z | z
        · exact absurd z (Nat.ne_of_lt hb)
        · exact absurd z (Nat.ne_of_lt (Nat.lt_succ_of_lt hb))
        · exact z
    · match r2, hr2 with
      | .error e, hr2 => exact hr2
      | .ok (.ret v), ⟨e1, g, tk, e2, so, kp⟩ =>
        subst e1
        subst e2
        repeat (any_goals (first | assumption | wp_step)); skip
        exact q _ _ so kp
end
end Pl

namespace Pl
open L2 PySem PySem.Spec PyProof.Rows
/-! ### tuples that are known to their object -/
section
variable {X : Cx} {es : List Expr} {pos : Pos} {t : TA}
def tTupF (t : TA) : TE := fun σ H Q => t σ H fun xs H1 => xs.length ≤ sizeLine ∧ ∀ p o, H1 p = none → o.dict = none → Q (.ref p) (upd H1 p (.frz o (.tup xs)))
theorem pe_tupF {x1} (h : PA X es t) : PE X (.Tuple es x1 pos) (tTupF t) := by
  refine ⟨fun pins s σ H Q I hq => wpAny_Tuple_spliced (thn (h.run pos pins s σ H _ I hq) fun us s1 ⟨xs, H1, I1, r, z, q⟩ => ⟨by rw [← r.length]; exact z, ?_⟩)⟩
  have at_ : (s1.heap.push { cls := .type "tuple", data := .seq us.toArray }).get? s1.heap.objs.size = some { cls := .type "tuple", data := .seq us.toArray } := Heap.get?_push_size _ rfl
  exact ⟨.ref s1.heap.objs.size, upd H1 s1.heap.objs.size (.frz { cls := .type "tuple", data := .seq us.toArray } (.tup xs)), I1.laid (t' := s1.toks) (fun b u e => Heap.get?_push_of_some _ e) (Nat.le_refl _) ⟨at_, z, us, r, ⟨_, at_, rfl, _, rfl⟩⟩, rfl, q _ _ (I1.hok.fresh (Nat.le_refl _)) rfl⟩
/-- tuple(a list) -/
def rTupF : List V → Hp → VK → Prop := fun xs H Q => ∃ p ys, xs = [.ref p] ∧ H p = some (.lst ys) ∧ ∀ l o, H l = none → o.dict = none → Q (.ref l) (upd H l (.frz o (.tup ys)))
theorem call_tupF : CallR X (.type "tuple") rTupF := by
  intro pins s σ H xs us Q I r h; skip
  obtain ⟨p, ys, rfl, hp, q⟩ := h
  obtain ⟨u, rfl, rx⟩ := vals1 r; skip
  cases rx
  obtain ⟨its, rv, pl, hz⟩ := I.list (SqL.of hp)
  have hlen := rv.length
  refine call_tuple_list pl.isList (fun g kp => ?_) (by simp only [List.size_toArray]; omega)
  have at_ : (g.push { cls := .type "tuple", data := .seq its.toArray }).get? g.objs.size = some { cls := .type "tuple", data := .seq its.toArray } := Heap.get?_push_size _ rfl
  have I1 : Inv X pins σ H { s with heap := g } := I.kept (t' := s.toks) kp
  exact ⟨.ref g.objs.size, upd H g.objs.size (.frz { cls := .type "tuple", data := .seq its.toArray } (.tup ys)), I1.laid (t' := s.toks) (fun b o e => Heap.get?_push_of_some _ e) (Nat.le_refl _) ⟨at_, hz, its, rv, ⟨_, at_, rfl, _, rfl⟩⟩, rfl, q _ _ (I1.hok.fresh (Nat.le_refl _)) rfl⟩
end
/-! ### len(set(a list of texts)) -/
def sK (ss : List Str) : List Key := ss.map Sum.inr
section
variable {X : Cx}
def tLenSetK (te : TE) : TE := fun σ H Q => te σ H fun v H1 => ∃ (l : Addr) (ss : List Str), v = .ref l ∧ H1 l = some (.lst (ss.map V.str)) ∧ ss.length ≤ 1000 ∧ Q (.int (dst (sK ss)).length) H1
theorem vals_sK {ss : List Str} {its : List Value} (r : Vals (ss.map V.str) its) : Vals ((sK ss).map kV) its := by
  have e : (sK ss).map kV = ss.map V.str := by
    unfold sK
    rw [List.map_map]
    rfl
  rw [e]
  exact r
theorem pe_lenSetK {a : Expr} {te : TE} {p p2 q pos : Pos} (hc : X.calm = true) (hg : Gl X "len") (hm : X.mg "len" = none) (hg2 : Gl X "set") (hm2 : X.mg "set" = none) (ha : PE X a te)
    (na : starEach [a] X.env = (false, eval a X.env) :: starEach [] X.env := by rfl) : PE X (.Call (.Name "len" p) [.Call (.Name "set" p2) [a] [] q] [] pos) (tLenSetK te) := by
  refine ⟨fun pins s σ H Q I h => Call_ (ld_blt I hg hm boot_len (PyProof.Rows.callWith_builtin1 (PyProof.Rows.args_cons ?_ rfl) rfl rfl))⟩
  refine Call_ (ld_blt I hg2 hm2 boot_set (PyProof.Rows.callWith_type1 (PyProof.Rows.args_cons (thn (ha.run pins s σ H _ I h) fun v s1 ⟨x, H1, I1, r1, q1⟩ => PyProof.Rows.args_nil ?_) na) na rfl))
  obtain ⟨l, ss, e1, hl, sm, q1⟩ := q1
  subst e1
  obtain rfl : v = Value.ref l := r1
  obtain ⟨its, rv, pl, hz⟩ := I1.list (SqL.of hl)
  have hlen := rv.length
  rw [List.length_map] at hlen
  refine set_list (I1.ok.hd hc) pl.isList (by simpa using vals_sK rv) (by rw [List.size_toArray, ← hlen]; unfold scanBound; omega) fun g tk so kp => PyProof.Rows.args_nil ?_
  obtain ⟨o, es, ep, t, ho, hex, hd, _, _, _, hf, hn⟩ := so
  have I2 : Inv X pins σ H1 { s1 with heap := g, toks := tk } := I1.kept fun b o e => kp b o (Heap.lt_size e) e
  have hle := dst_le (sK ss)
  have hk : (sK ss).length = ss.length := by
    unfold sK
    exact List.length_map ..
  refine call_len_set ho hex hd hf (by rw [hn]; omega) ⟨.int (dst (sK ss)).length, H1, I2.tok _, ⟨_, by rw [hn]⟩, q1⟩
/-! ### len(dict(a tuple of pairs)) -/
def kvsP (bs : List PB) : List (Key × V) := bs.map fun b => (Sum.inr b.2.1, .int b.2.2)
theorem putK_keys (acc : List (Key × V)) (k : Key) (v : V) : (putK acc k v).map (·.1) = if hasK k (acc.map (·.1)) = true then acc.map (·.1) else acc.map (·.1) ++ [k] := by
  unfold putK hasK
  rw [List.any_map]
  show ((if (acc.any fun kv => decide (kv.1 = k)) = true then _ else _) : List (Key × V)).map (·.1) = if (acc.any fun kv => decide (kv.1 = k)) = true then _ else _
  split
  · rw [List.map_map]
    refine List.map_congr_left fun p _ => ?_; skip
    show (if p.1 = k then (p.1, v) else p).1 = p.1
    split <;> rfl
  · rw [List.map_append]
    rfl
theorem merge_keys : ∀ (more acc : List (Key × V)), (mergeK acc more).map (·.1) = (more.map (·.1)).foldl (fun acc x => if hasK x acc = true then acc else acc ++ [x]) (acc.map (·.1))
  | [], _ => rfl
  | p :: r, acc => by
    show (mergeK (putK acc p.1 p.2) r).map (·.1) = _
    rw [merge_keys r, putK_keys]
    rfl
theorem merge_len (bs : List PB) : (mergeK [] (kvsP bs)).length = (dst (sK (bs.map (·.2.1)))).length := by
  rw [← List.length_map (f := (·.1)), merge_keys]
  have e : (kvsP bs).map (·.1) = sK (bs.map (·.2.1)) := by
    unfold kvsP sK
    rw [List.map_map, List.map_map]; skip
    rfl
  rw [e]
  rfl
theorem prs_at {pins : List (Addr × Obj)} {σ : L2.St} {H : Hp} {s : Shared} {m : Bool} {z : Addr} (I : Inv X pins σ H s) : ∀ {bs : List PB} {us : List Value}, Prs m z H bs → Vals (bs.map (·.1)) us →
    ∃ (Ts : List Addr) (ps : List (Value × Value)), us = Ts.map Value.ref ∧ ps.length = Ts.length ∧ KV (kvsP bs) ((ps.zip bs).map fun q => ((Sum.inr q.2.2.1 : Key), q.1.2)) ∧ bs.length = Ts.length ∧
      ∀ (j : Nat) (k v : Value), ps[j]? = some (k, v) → ∃ (t : Addr) (b : PB), Ts[j]? = some t ∧ bs[j]? = some b ∧ IsTup s.heap t #[k, v] ∧ RelV (.str b.2.1) k ∧ RelV (.int b.2.2) v
  | [], us, _, r => by
    cases r
    exact ⟨[], [], rfl, rfl, .nil, rfl, fun j k v e => by simp at e⟩
  | b :: bs, us, hp, r => by
    cases r with
    | cons r0 rr =>
      rename_i u us
      obtain ⟨Ts, ps, e1, e2, e3, e4, e5⟩ := prs_at I (fun c hc => hp c (List.mem_cons_of_mem _ hc)) rr
      have hb := hp b List.mem_cons_self
      obtain ⟨bv, nm, n⟩ := b
      have hb' : Dv m z H true bv (.tuple [.str nm, .int n]) := hb
      cases hb' with
      | @tup _ a xs _ ne ht tt =>
        cases tt with
        | cons d1 t2 =>
          cases t2 with
          | cons d2 t3 =>
            cases t3
            cases d1
            cases d2
            obtain rfl : u = Value.ref a := r0
            obtain ⟨_, its, rv, it⟩ := ht.obj I
            obtain ⟨k, v, ei, rk, rv2⟩ := vals2 rv
            subst ei
            refine ⟨a :: Ts, (k, v) :: ps, by rw [e1]; rfl, by rw [List.length_cons, List.length_cons, e2], .cons ⟨rfl, rv2⟩ e3, by rw [List.length_cons, List.length_cons, e4], fun j k' v' e => ?_⟩
            cases j with
            | zero =>
              simp at e
              obtain ⟨rfl, rfl⟩ := e
              exact ⟨a, (.ref a, nm, n), rfl, rfl, it, rk, rv2⟩
            | succ j =>
              obtain ⟨t, b, h1, h2, h3⟩ := e5 j k' v' (by simpa using e)
              exact ⟨t, b, by simpa using h1, by simpa using h2, h3⟩
def tLenDict (te : TE) : TE := fun σ H Q => te σ H fun v H1 => ∃ (m : Bool) (z a : Addr) (bs : List PB) (o : Obj), v = .ref a ∧ H1 a = some (.frz o (.tup (bs.map (·.1)))) ∧ o.dict = none ∧ Prs m z H1 bs ∧ ∀ p u, H1 p = none → Q (.int (dst (sK (bs.map (·.2.1)))).length) (upd H1 p u)
theorem zip_at {α β : Type} : ∀ {l : List α} {r : List β} {j : Nat} {x : α} {y : β}, l[j]? = some x → r[j]? = some y → (l.zip r)[j]? = some (x, y)
  | [], _, _, _, _, h, _ => absurd h (by simp)
  | _ :: _, [], _, _, _, _, h => absurd h (by simp)
  | a :: l, b :: r, 0, x, y, h1, h2 => by
    simp at h1 h2
    rw [h1, h2]
    rfl
  | a :: l, b :: r, j + 1, x, y, h1, h2 => by
    have h := zip_at (l := l) (r := r) (j := j) (x := x) (y := y) (by simpa using h1) (by simpa using h2)
    simpa using h
theorem pe_lenDict {a : Expr} {te : TE} {p p2 q pos : Pos} (hc : X.calm = true) (hg : Gl X "len") (hm : X.mg "len" = none) (hg2 : Gl X "dict") (hm2 : X.mg "dict" = none) (ha : PE X a te)
    (na : starEach [a] X.env = (false, eval a X.env) :: starEach [] X.env := by rfl) : PE X (.Call (.Name "len" p) [.Call (.Name "dict" p2) [a] [] q] [] pos) (tLenDict te) := by
  refine ⟨fun pins s σ H Q I h => Call_ (ld_blt I hg hm boot_len (PyProof.Rows.callWith_builtin1 (PyProof.Rows.args_cons ?_ rfl) rfl rfl))⟩
  refine Call_ (ld_blt I hg2 hm2 (show bootBuiltins "dict" = some (.type "dict") by decide +kernel) (PyProof.Rows.callWith_type1 (PyProof.Rows.args_cons (thn (ha.run pins s σ H _ I h) fun v s1 ⟨x, H1, I1, r1, q1⟩ => PyProof.Rows.args_nil ?_) na) na rfl))
  obtain ⟨m, z, a, bs, o, e1, ht, hd, hp, q1⟩ := q1
  subst e1
  obtain rfl : v = Value.ref a := r1; skip
  obtain ⟨e0, hz, its, rv, o', eo, hcl, n, hdat⟩ := I1.hok a _ ht
  rw [e0] at eo
  cases eo
  obtain ⟨Ts, ps, eu, l1, rel, l2, hps⟩ := prs_at I1 hp rv
  subst eu
  have lps : ps.length = bs.length := by omega
  rw [List.length_map] at hz
  refine PySem.call_dict_pairs (knd := mixKind X.prog X.w) (kvs := (ps.zip bs).map fun q => ((Sum.inr q.2.2.1 : Key), q.1.2)) (PairArg.tuple (prog := X.prog) (w := X.w) a (Ts.map Value.ref).toArray (fun j => Ts.getD j 0) ps) (I1.ok.hd hc) ⟨⟨o, n, e0, hcl, hd, hdat⟩, ?_, fun j k v e => ?_⟩ ⟨?_, fun j k v e => ?_⟩ (by omega) fun g tk hD kp => PyProof.Rows.args_nil ?_
  · rw [List.size_toArray, List.length_map]
    exact l1.symm
  · obtain ⟨t, b, h1, h2, h3, _, _⟩ := hps j k v e
    refine ⟨by simp [h1], .inl ?_⟩
    have et : Ts.getD j 0 = t := by
      rw [List.getD_eq_getElem?_getD, h1]
      rfl
    show s1.heap.IsTuple (Ts.getD j 0) #[k, v]
    rw [et]
    exact h3
  · rw [List.length_map, List.length_zip]
    omega
  · obtain ⟨t, b, h1, h2, h3, rk, rv2⟩ := hps j k v e
    obtain ⟨tk, ek⟩ := rk
    subst ek
    refine ⟨Sum.inr b.2.1, ?_, keyIs_str b.2.1 tk⟩
    rw [List.getElem?_map, zip_at (show ps[j]? = some (_, v) from e) h2]
    rfl
  · have hm : (s1.heap.objs.size == sysModules) = false := beq_eq_false_iff_ne.mpr (Nat.ne_of_gt I1.big)
    have hk : (kvsP bs).length = bs.length := by
      unfold kvsP
      exact List.length_map ..
    have hlen : (mergeK [] (kvsP bs)).length ≤ sizeLine := by
      refine Nat.le_trans (length_mergeK _ _) ?_
      rw [List.length_nil, hk]
      omega
    have new : H1 s1.heap.objs.size = none := I1.hok.fresh (Nat.le_refl _)
    have I2 : Inv X pins σ (upd H1 s1.heap.objs.size (.dK (mergeK [] (kvsP bs)))) { s1 with heap := g, toks := tk } :=
      I1.laid (t' := tk) (fun b o e => kp b o (by simp) e) (Nat.le_refl _) (show ObjOk X.prog X.w _ _ _ (.dK (mergeK [] (kvsP bs))) from ⟨hlen, hm, _, KV.merge rel .nil, hD⟩)
    refine d_len I2 (.inl upd_same) fun t s' I3 => ⟨.int (dst (sK (bs.map (·.2.1)))).length, _, I3, ⟨t, by rw [merge_len]⟩, q1 _ _ new⟩
end
end Pl

namespace Pl
open L2 PySem PySem.Spec PyProof.Rows
/-! ### the mathematics: what is a deed -/
def LET : Str := "abcdefghijklmnopqrstuvwxyz"
def isNum : PyData → Bool
  | .int _ => true
  | _ => false
def within (d : PyData) (lo hi : Int) : Bool := match d with
  | .int i => decide (lo ≤ i) && decide (i ≤ hi)
  | _ => false
def isName : PyData → Bool
  | .str x => decide (1 ≤ (x.length : Int)) && decide ((x.length : Int) ≤ 4) && x.cps.toList.all fun c => decide (c ∈ LET.cps.toList)
  | _ => false
def isPair : PyData → Bool
  | .tuple [a, b] => isName a && within b 0 99
  | _ => false
/-- the text of a name, of a pair -/
def txt : PyData → Str
  | .str x => x
  | _ => LET
def nmOf : PyData → Str
  | .tuple (a :: _) => txt a
  | _ => LET
def arePairs : PyData → Bool
  | .tuple ps => decide (ps.length ≤ 4) && ps.all isPair && decide ((dst (sK (ps.map nmOf))).length = ps.length)
  | _ => false
def f2 (g h : PyData → Bool) : List PyData → Bool
  | [a, b] => g a && h b
  | _ => false
def f1 (g : PyData → Bool) : List PyData → Bool
  | [a] => g a
  | _ => false
abbrev pKey : PyData → Bool := fun d => within d 0 9
abbrev pVal : PyData → Bool := fun d => within d 0 99
abbrev pMom : PyData → Bool := fun d => within d 1 999
/-- of these words the rest of a deed is asked so -/
def formP (x : Str) : Option (List PyData → Bool) :=
  if x = "put" then some (f2 pKey arePairs) else if x = "strike" then some (f1 pKey) else if x = "add" then some (f2 isName pVal) else if x = "drop" then some (f1 isName) else if x = "rename" then some (f2 isName isName) else none
def isParts (w : PyData) (ps : List PyData) : Bool := match w with
  | .str x => (match formP x with
    | some f => f ps
    | none => false)
  | _ => false
def isDeed : PyData → Bool
  | .tuple (m :: w :: p :: r) => within m 1 999 && isParts w (p :: r)
  | _ => false
/-! ### the text by places -/
def top (i : Nat) : Stmt := PySem.Challenge.pw_plainstore_k02_pasts_made_and_changed.main.body.getD i (.Pass ⟨0, 0, 0, 0⟩)
abbrev sIsNumber : Stmt := top 11
abbrev sIsWithin : Stmt := top 12
abbrev sIsMoment : Stmt := top 13
abbrev sIsKey : Stmt := top 14
abbrev sIsValue : Stmt := top 15
abbrev sIsName : Stmt := top 20
abbrev sIsDeed : Stmt := top 21
abbrev sInOrder : Stmt := top 22
abbrev sCheck : Stmt := top 23
abbrev sIsPut : Stmt := top 24
abbrev sIsStrike : Stmt := top 25
abbrev sIsAdd : Stmt := top 26
abbrev sIsDrop : Stmt := top 27
abbrev sIsRename : Stmt := top 28
abbrev sArePairs : Stmt := top 29
abbrev sIsPair : Stmt := top 30
/-- what the top has left of constants and built-ins -/
structure Cst (K : PySem.W.Frag) (mg : Str → Option Value) : Prop where
  isi : mg "isinstance" = none
  len : mg "len" = none
  all : mg "all" = none
  set : mg "set" = none
  tint : mg "int" = none
  tbool : mg "bool" = none
  tstr : mg "str" = none
  ttup : mg "tuple" = none
  srt : mg "sorted" = none
  first : ∃ t, mg "FIRST_MOMENT" = some (.int 1 t)
  last : ∃ t, mg "LAST_MOMENT" = some (.int 999 t)
  lastv : ∃ t, mg "LAST_VALUE" = some (.int 99 t)
  longest : ∃ t, mg "LONGEST_NAME" = some (.int 4 t)
  most : ∃ t, mg "MOST_PAIRS" = some (.int 4 t)
  letters : ∃ t, mg "LETTERS" = some (.str LET t)
/-- a value's kind -/
def kindOf : PyData → String
  | .none => "NoneType"
  | .bool _ => "bool"
  | .int _ => "int"
  | .str _ => "str"
  | .list _ => "list"
  | .tuple _ => "tuple"
  | .dict _ => "dict"
theorem TupAt.ty {K : PySem.W.Frag} {H : Hp} {k : Bool} {a : Addr} {xs : List V} (h : TupAt H k a xs) : TyX K H (.ref a) (.type "tuple") := by
  cases h with
  | frz h d => exact .fTuple h
  | big h l => exact .base (.tup h)
  | any h => exact .base (.tup h)
theorem Dv.ty {K : PySem.W.Frag} {m : Bool} {z : Addr} {H : Hp} {k : Bool} {v : V} {d : PyData} (h : Dv m z H k v d) : TyX K H v (.type (kindOf d)) := by
  cases h with
  | non => exact .base .non
  | bl b => exact .base (.bl b)
  | int i => exact .base (.int i)
  | str x => exact .base (.str x)
  | lst hm ne h t => exact .base (.lst h)
  | tup ne h t => exact h.ty
  | dct hm ne h => exact .base (.dK h)
/-- a predicate of any data -/
def spP (f : PyData → Bool) : Sp := fun vs H Q _ => ∃ (m : Bool) (z : Addr) (k : Bool) (v : V) (d : PyData), vs = [v] ∧ Dv m z H k v d ∧ d.weight ≤ 1000 ∧ ∀ H', Same H H' → Q (.bl (f d)) H'
section
variable {P : Program} {K : PySem.W.Frag} {w : World} {base : Heap} {mg : Str → Option Value}
theorem scIsNumber : FnScope ["value"] ["value"] (defScope sIsNumber) := ⟨rfl, rfl, rfl, by decide +kernel, rfl, by decide +kernel, by decide +kernel⟩
def isIB : PyData → Bool
  | .int _ => true
  | .bool _ => true
  | _ => false
theorem kit_int : ∀ d : PyData, PySem.W.kitOne K (.type (kindOf d)) (.type "int") = some (isIB d)
  | .none  => kit_ty (show kitB "NoneType" "int" = some false from by decide +kernel)
  | .bool _ => kit_ty (show kitB "bool" "int" = some true from by decide +kernel)
  | .int _ => kit_ty (show kitB "int" "int" = some true from by decide +kernel)
  | .str _ => kit_ty (show kitB "str" "int" = some false from by decide +kernel)
  | .list _ => kit_ty (show kitB "list" "int" = some false from by decide +kernel)
  | .tuple _ => kit_ty (show kitB "tuple" "int" = some false from by decide +kernel)
  | .dict _ => kit_ty (show kitB "dict" "int" = some false from by decide +kernel)
def isB : PyData → Bool
  | .bool _ => true
  | _ => false
theorem kit_bool : ∀ d : PyData, PySem.W.kitOne K (.type (kindOf d)) (.type "bool") = some (isB d)
  | .none  => kit_ty (show kitB "NoneType" "bool" = some false from by decide +kernel)
  | .bool _ => kit_ty (show kitB "bool" "bool" = some true from by decide +kernel)
  | .int _ => kit_ty (show kitB "int" "bool" = some false from by decide +kernel)
  | .str _ => kit_ty (show kitB "str" "bool" = some false from by decide +kernel)
  | .list _ => kit_ty (show kitB "list" "bool" = some false from by decide +kernel)
  | .tuple _ => kit_ty (show kitB "tuple" "bool" = some false from by decide +kernel)
  | .dict _ => kit_ty (show kitB "dict" "bool" = some false from by decide +kernel)
def isS : PyData → Bool
  | .str _ => true
  | _ => false
theorem kit_str : ∀ d : PyData, PySem.W.kitOne K (.type (kindOf d)) (.type "str") = some (isS d)
  | .none  => kit_ty (show kitB "NoneType" "str" = some false from by decide +kernel)
  | .bool _ => kit_ty (show kitB "bool" "str" = some false from by decide +kernel)
  | .int _ => kit_ty (show kitB "int" "str" = some false from by decide +kernel)
  | .str _ => kit_ty (show kitB "str" "str" = some true from by decide +kernel)
  | .list _ => kit_ty (show kitB "list" "str" = some false from by decide +kernel)
  | .tuple _ => kit_ty (show kitB "tuple" "str" = some false from by decide +kernel)
  | .dict _ => kit_ty (show kitB "dict" "str" = some false from by decide +kernel)
def isT : PyData → Bool
  | .tuple _ => true
  | _ => false
theorem kit_tup : ∀ d : PyData, PySem.W.kitOne K (.type (kindOf d)) (.type "tuple") = some (isT d)
  | .none  => kit_ty (show kitB "NoneType" "tuple" = some false from by decide +kernel)
  | .bool _ => kit_ty (show kitB "bool" "tuple" = some false from by decide +kernel)
  | .int _ => kit_ty (show kitB "int" "tuple" = some false from by decide +kernel)
  | .str _ => kit_ty (show kitB "str" "tuple" = some false from by decide +kernel)
  | .list _ => kit_ty (show kitB "list" "tuple" = some false from by decide +kernel)
  | .tuple _ => kit_ty (show kitB "tuple" "tuple" = some true from by decide +kernel)
  | .dict _ => kit_ty (show kitB "dict" "tuple" = some false from by decide +kernel)
theorem ok_number {f : Addr} {fd : FuncData} (F : Fun K "is_number" "is_number" sIsNumber f fd) (T : Cst K mg) : FnOk P w K mg base CX0 1 f fd ["value"] (spP isNum) := by
  refine F.ok scIsNumber (fun vs H Q E h => ?_) (fun cdv A outer s H vs Q E hr h => ?_)
  · obtain ⟨m, z, k, v, d, rfl, _⟩ := h
    rfl
  · obtain ⟨m, z, k, v, d, rfl, hd, hw, q⟩ := h
    refine ⟨_, pss_one (ps_ret (pe_and (pe_callB call_isi (by rfl) T.isi (by decide +kernel) (pa_cons (pv 0) (pa_cons (pe_bltn (v := .ty "int") (by rfl) T.tint (by decide +kernel) rfl) pa_nil)))
      (pe_one (pe_not (pe_callB call_isi (by rfl) T.isi (by decide +kernel) (pa_cons (pv 0) (pa_cons (pe_bltn (v := .ty "bool") (by rfl) T.tbool (by decide +kernel) rfl) pa_nil))))))), ?_⟩
    refine ⟨_, rfl, v, _, _, _, _, rfl, .ty _, hd.ty, kit_int d, _, rfl, ?_⟩
    have key : ∀ b, isNum d = b → Q (.bl b) H := fun b e => by
      rw [← e]
      exact q _ (Same.refl _)
    refine ite2 (fun e => ?_) fun e => key _ ?_
    · refine ⟨_, rfl, v, _, _, _, _, rfl, .ty _, hd.ty, kit_bool d, _, rfl, key _ ?_⟩
      cases d <;> first | rfl | cases e
    · cases d <;> first | rfl | exact absurd rfl e
theorem scIsWithin : FnScope ["value", "least", "most"] ["value", "least", "most"] (defScope sIsWithin) := ⟨rfl, rfl, rfl, by decide +kernel, rfl, by decide +kernel, by decide +kernel⟩
def spW : Sp := fun vs H Q _ => ∃ (m : Bool) (z : Addr) (k : Bool) (v : V) (d : PyData) (lo hi : Int), vs = [v, .int lo, .int hi] ∧ Dv m z H k v d ∧ d.weight ≤ 1000 ∧ ∀ H', Same H H' → Q (.bl (within d lo hi)) H'
/-- a def of the text as its callers see it -/
structure Df (P : Program) (w : World) (K : PySem.W.Frag) (mg : Str → Option Value) (base : Heap) (k : Nat) (x : Str) (ps : List Str) (sp : Sp) : Prop where
  ex : ∃ (f : Addr) (fd : FuncData), FnOk P w K mg base CX0 k f fd ps sp ∧ mg x = some (.ref f) ∧ PySem.W.keepIn K (.ref f) = true ∧ Binds K fd ps []
theorem isNum_inv {d : PyData} (h : isNum d = true) : ∃ i, d = .int i := by
  cases d <;> first | exact ⟨_, rfl⟩ | cases h
theorem within_no {d : PyData} {lo hi : Int} (h : isNum d = false) : within d lo hi = false := by
  cases d <;> first | rfl | cases h
theorem ok_within {f : Addr} {fd : FuncData} (F : Fun K "is_within" "is_within" sIsWithin f fd) (D : Df P w K mg base 1 "is_number" ["value"] (spP isNum)) : FnOk P w K mg base CX0 2 f fd ["value", "least", "most"] spW := by
  obtain ⟨fN, fdN, GN, mN, kN, bN⟩ := D.ex
  refine F.ok scIsWithin (fun vs H Q E h => ?_) (fun cdv A outer s H vs Q E hr h => ?_)
  · obtain ⟨m, z, k, v, d, lo, hi, rfl, _⟩ := h
    rfl
  · obtain ⟨m, z, k, v, d, lo, hi, rfl, hd, hw, q⟩ := h
    refine ⟨_, pss_one (ps_ret (pe_and (pe_call GN hr (by rfl) mN kN bN .nil pass0 (pa_cons (pv 0) pa_nil)) (pe_one (pe_chain op_le op_le (pv 1) (pv 0) (pv 2))))), ?_⟩
    refine ⟨v, rfl, m, z, k, v, d, rfl, hd, hw, fun H' s1 => ⟨_, rfl, ?_⟩⟩
    refine ite2 (fun e => ?_) fun e => ?_
    · obtain ⟨i, rfl⟩ := isNum_inv e
      cases hd
      refine ⟨_, rfl, _, rfl, _, _, rfl, rfl, _, rfl, ?_⟩; skip
      refine ite2 (fun e => ?_) fun e => ?_
      · refine ⟨_, rfl, _, _, rfl, rfl, ?_⟩
        have q2 : Q (.bl (decide (lo ≤ i) && decide (i ≤ hi))) H' := q _ s1
        rw [show decide (lo ≤ i) = true from e, Bool.true_and] at q2
        exact q2
      · have q2 : Q (.bl (decide (lo ≤ i) && decide (i ≤ hi))) H' := q _ s1
        rw [show decide (lo ≤ i) = false from Bool.eq_false_iff.mpr e, Bool.false_and] at q2
        exact q2
    · have q2 := q _ s1
      rw [within_no (Bool.eq_false_iff.mpr e)] at q2
      exact q2
end
end Pl

namespace Pl
open L2 PySem PySem.Spec PyProof.Rows
section
variable {P : Program} {K : PySem.W.Frag} {w : World} {base : Heap} {mg : Str → Option Value}
theorem sc1 {st : Stmt} (h : FnScope ["value"] ["value"] (defScope st)) : FnScope ["value"] ["value"] (defScope st) := h
theorem scIsMoment : FnScope ["value"] ["value"] (defScope sIsMoment) := ⟨rfl, rfl, rfl, by decide +kernel, rfl, by decide +kernel, by decide +kernel⟩
theorem ok_moment {f : Addr} {fd : FuncData} (F : Fun K "is_moment" "is_moment" sIsMoment f fd) (T : Cst K mg) (D : Df P w K mg base 2 "is_within" ["value", "least", "most"] spW) : FnOk P w K mg base CX0 3 f fd ["value"] (spP fun d => within d 1 999) := by
  obtain ⟨fN, fdN, GN, mN, kN, bN⟩ := D.ex
  obtain ⟨t1, m1⟩ := T.first
  obtain ⟨t2, m2⟩ := T.last
  refine F.ok scIsMoment (fun vs H Q E h => ?_) (fun cdv A outer s H vs Q E hr h => ?_)
  · obtain ⟨m, z, k, v, d, rfl, _⟩ := h
    rfl
  · obtain ⟨m, z, k, v, d, rfl, hd, hw, q⟩ := h
    exact ⟨_, pss_one (ps_ret (pe_call GN hr (by rfl) mN kN bN .nil pass0 (pa_cons (pv 0) (pa_cons (pe_glob (v := .int 1) (by rfl) m1 ⟨_, rfl⟩) (pa_cons (pe_glob (v := .int 999) (by rfl) m2 ⟨_, rfl⟩) pa_nil))))),
      v, rfl, m, z, k, v, d, 1, 999, rfl, hd, hw, q⟩
theorem scIsValue : FnScope ["value"] ["value"] (defScope sIsValue) := ⟨rfl, rfl, rfl, by decide +kernel, rfl, by decide +kernel, by decide +kernel⟩
theorem ok_value {f : Addr} {fd : FuncData} (F : Fun K "is_value" "is_value" sIsValue f fd) (T : Cst K mg) (D : Df P w K mg base 2 "is_within" ["value", "least", "most"] spW) : FnOk P w K mg base CX0 3 f fd ["value"] (spP fun d => within d 0 99) := by
  obtain ⟨fN, fdN, GN, mN, kN, bN⟩ := D.ex
  obtain ⟨t2, m2⟩ := T.lastv
  refine F.ok scIsValue (fun vs H Q E h => ?_) (fun cdv A outer s H vs Q E hr h => ?_)
  · obtain ⟨m, z, k, v, d, rfl, _⟩ := h
    rfl
  · obtain ⟨m, z, k, v, d, rfl, hd, hw, q⟩ := h
    exact ⟨_, pss_one (ps_ret (pe_call GN hr (by rfl) mN kN bN .nil pass0 (pa_cons (pv 0) (pa_cons pe_int (pa_cons (pe_glob (v := .int 99) (by rfl) m2 ⟨_, rfl⟩) pa_nil))))),
      v, rfl, m, z, k, v, d, 0, 99, rfl, hd, hw, q⟩
theorem scIsKey : FnScope ["value"] ["value"] (defScope sIsKey) := ⟨rfl, rfl, rfl, by decide +kernel, rfl, by decide +kernel, by decide +kernel⟩
def keysV : List V := [.int 0, .int 1, .int 2, .int 3, .int 4, .int 5, .int 6, .int 7, .int 8, .int 9]
theorem key_in (i : Int) : inV (.int i) keysV = (decide (0 ≤ i) && decide (i ≤ 9)) := by
  unfold inV keysV
  simp only [List.any_cons, List.any_nil, Bool.or_false, eqV]
  rw [Bool.eq_iff_iff]
  simp only [Bool.or_eq_true, beq_iff_eq, Bool.and_eq_true, decide_eq_true_eq]
  omega
theorem ok_key {f aK : Addr} {fd : FuncData} (F : Fun K "is_key" "is_key" sIsKey f fd) (hK : mg "KEYS" = some (.ref aK)) (sK : ∀ H : Hp, SqT K H aK keysV) (D : Df P w K mg base 1 "is_number" ["value"] (spP isNum)) : FnOk P w K mg base CX0 2 f fd ["value"] (spP fun d => within d 0 9) := by
  obtain ⟨fN, fdN, GN, mN, kN, bN⟩ := D.ex
  refine F.ok scIsKey (fun vs H Q E h => ?_) (fun cdv A outer s H vs Q E hr h => ?_)
  · obtain ⟨m, z, k, v, d, rfl, _⟩ := h
    rfl
  · obtain ⟨m, z, k, v, d, rfl, hd, hw, q⟩ := h
    refine ⟨_, pss_one (ps_ret (pe_and (pe_call GN hr (by rfl) mN kN bN .nil pass0 (pa_cons (pv 0) pa_nil)) (pe_one (pe_cmpR op_in_seq (pv 0) (pe_glob (v := .ref aK) (by rfl) hK rfl) (by rfl))))), ?_⟩
    refine ⟨v, rfl, m, z, k, v, d, rfl, hd, hw, fun H' s1 => ⟨_, rfl, ?_⟩⟩
    refine ite2 (fun e => ?_) fun e => ?_
    · obtain ⟨i, rfl⟩ := isNum_inv e
      cases hd
      have q2 : Q (.bl (decide (0 ≤ i) && decide (i ≤ 9))) H' := q _ s1
      rw [← key_in] at q2
      exact ⟨_, rfl, aK, keysV, rfl, .inr (sK H'), rfl, by decide, q2⟩
    · have q2 : Q (.bl (within d 0 9)) H' := q _ s1
      rw [within_no (Bool.eq_false_iff.mpr e)] at q2
      exact q2
end
end Pl

namespace Pl
open L2 PySem PySem.Spec PyProof.Rows
section
variable {P : Program} {K : PySem.W.Frag} {w : World} {base : Heap} {mg : Str → Option Value}
theorem scIsName : FnScope ["value", "letter"] ["value"] (defScope sIsName) := ⟨rfl, rfl, rfl, by decide +kernel, rfl, by decide +kernel, by decide +kernel⟩
def inL (c : Nat) : Bool := decide (c ∈ LET.cps.toList)
theorem take_snoc {α : Type} {l : List α} {i : Nat} {x : α} (h : l[i]? = some x) : l.take (i + 1) = l.take i ++ [x] := by
  rw [List.take_add_one, h]
  rfl
theorem str_len {x : Str} (h : (PyData.str x).weight ≤ 1000) : x.length ≤ 1000 := by
  simp only [PyData.weight] at h
  exact h
theorem sz1000 {n : Nat} (h : n ≤ 1000) : n ≤ sizeLine := Nat.le_of_lt (small1000 h)
theorem ok_name {f : Addr} {fd : FuncData} (F : Fun K "is_name" "is_name" sIsName f fd) (T : Cst K mg) : FnOk P w K mg base CX0 1 f fd ["value"] (spP isName) := by
  obtain ⟨t1, m1⟩ := T.longest
  obtain ⟨t2, m2⟩ := T.letters
  refine F.ok scIsName (fun vs H Q E h => ?_) (fun cdv A outer s H vs Q E hr h => ?_)
  · obtain ⟨m, z, k, v, d, rfl, _⟩ := h
    rfl
  · obtain ⟨m, z, k, v, d, rfl, hd, hw, q⟩ := h
    refine ⟨_, pss_cons (ps_if (PW.pt (pw_or (pt_not (pt_val (pe_callB call_isi (by rfl) T.isi (by decide +kernel) (pa_cons (pv 0) (pa_cons (pe_bltn (v := .ty "str") (by rfl) T.tstr (by decide +kernel) rfl) pa_nil)))))
        (pw_or1 (pt_not (pt_chain op_le op_le pe_int (pe_callB call_len_str (by rfl) T.len PySem.boot_len (pa_cons (pv 0) pa_nil)) (pe_glob (v := .int 4) (by rfl) m1 ⟨_, rfl⟩))))))
        (pss_one (ps_ret pe_bl)) pss_nil)
      (pss_one (ps_ret (pe_callB (cr_all rfl) (by rfl) T.all (by decide +kernel) (pa_cons (pe_lc (own := [("letter", 1)]) (g := gName 1) (tt := tYes) rfl scIsName.nd (pi_str (pv 0)) (blkOk_by (own := [("letter", 1)]) (N := ["value", "letter"]) (sc := defScope sIsName) (by decide +kernel))
        (fun _ _ _ _ _ => pg_name (i := 1) scIsName.nd rfl (Or.inl rfl)) (fun _ _ _ _ _ => pts_nil)
        (fun _ _ _ _ _ => pe_cmpR op_in_sign (pv 1) (pe_glob (v := .str LET) (by rfl) m2 ⟨_, rfl⟩) (by rfl))) pa_nil)))), ?_⟩
    have no : isName d = false → Q (.bl false) H := fun e => by
      rw [← e]
      exact q _ (Same.refl _)
    refine ⟨_, rfl, v, _, _, _, _, rfl, .ty _, hd.ty, kit_str d, _, rfl, ?_⟩
    cases d with
    | str x =>
      cases hd
      have hx := str_len hw
      refine iteF ?_
      refine ⟨_, rfl, _, rfl, sz1000 hx, _, _, rfl, rfl, _, rfl, ?_⟩
      refine ite2 (fun e1 => ?_) fun e1 => ⟨_, rfl, iteT (no ?_)⟩
      · refine ⟨_, _, rfl, rfl, _, rfl, ?_⟩
        refine ite2 (fun e2 => no ?_) fun e2 => ?_
        · show (decide (1 ≤ (x.length : Int)) && decide ((x.length : Int) ≤ 4) && _) = false
          have e3 : decide ((x.length : Int) ≤ 4) = false := by simpa using e2
          rw [e3, Bool.and_false, Bool.false_and]
        · have e3 : decide ((x.length : Int) ≤ 4) = true := by simpa using e2
          have key : ∀ G, Same H G → Q (.bl (x.cps.toList.all inL)) G := fun G s => by
            have q2 : Q (.bl (decide (1 ≤ (x.length : Int)) && decide ((x.length : Int) ≤ 4) && x.cps.toList.all inL)) G := q G s
            rw [show decide (1 ≤ (x.length : Int)) = true from e1, e3, Bool.true_and, Bool.true_and] at q2
            exact q2
          refine ⟨_, rfl, x, rfl, fun D hD => lc_it walk_str (fun i G => Same H G ∧ G D = some (.lst ((x.cps.toList.take i).map fun c => V.bl (inL c)))) ⟨same_new hD, upd_same⟩ (fun _ _ _ _ => True.intro) ?_ ?_⟩
          · rintro i y G G' hi ⟨s1, s2⟩ ⟨rfl, c, hc, rfl⟩
            have hc' : (x.cps.toList[i]? = some c) := by
              rw [Array.getElem?_toList]
              exact hc
            refine ⟨rfl, ?_⟩
            refine iteT (B := (Same H G' ∧ G' D = some (HO.lst (List.map (fun c => V.bl (inL c)) (List.take (i + 1) x.cps.toList))))) ⟨_, rfl, c, LET, rfl, rfl, _, s2, ?_, fun b o e => ?_, ?_⟩
            · rw [List.length_map, List.length_take]; skip
              exact Nat.lt_of_le_of_lt (Nat.min_le_right _ _) (small1000 hx)
            · rw [upd_ne (ne_of_none e hD)]
              exact s1 b o e
            · rw [upd_same, take_snoc hc', List.map_append]
              rfl
          · rintro G ⟨s1, s2⟩
            have e4 : x.cps.toList.take x.cps.size = x.cps.toList := by
              rw [← Array.length_toList]
              exact List.take_length
            rw [e4] at s2
            refine ⟨D, x.cps.toList.map inL, rfl, SqL.of ?_, ?_⟩
            · rw [s2, List.map_map]
              rfl
            · have q3 := key G s1
              have e5 : (x.cps.toList.map inL).all id = x.cps.toList.all inL := by
                rw [List.all_map]
                rfl
              rw [e5]
              exact q3
      · show (decide (1 ≤ (x.length : Int)) && _ && _) = false
        rw [show decide (1 ≤ (x.length : Int)) = false from Bool.eq_false_iff.mpr e1, Bool.false_and, Bool.false_and]
    | _ =>
      refine iteT ?_
      exact no rfl
end
end Pl

namespace Pl
open L2 PySem PySem.Spec PyProof.Rows
theorem w_mem : ∀ {ds : List PyData} {d : PyData}, d ∈ ds → d.weight ≤ PyData.weightAll ds
  | [], _, h => by cases h
  | e :: ds, d, h => by
    simp only [PyData.weightAll]
    rcases List.mem_cons.mp h with rfl | h; skip
    · omega
    · have := w_mem h
      omega
theorem w_len : ∀ ds : List PyData, ds.length ≤ PyData.weightAll ds
  | [] => Nat.zero_le _
  | d :: ds => by
    have := w_len ds
    simp only [PyData.weightAll, List.length_cons]
    omega
theorem w_tup (ds : List PyData) : (PyData.tuple ds).weight = PyData.weightAll ds := by simp only [PyData.weight]
theorem w_lst (ds : List PyData) : (PyData.list ds).weight = PyData.weightAll ds := by simp only [PyData.weight]
section
variable {m : Bool} {z : Addr} {H : Hp} {k : Bool} {v : V}
theorem Dv.tupD {ds : List PyData} (h : Dv m z H k v (.tuple ds)) : ∃ a xs, v = .ref a ∧ a ≠ z ∧ TupAt H k a xs ∧ DvL m z H true xs ds := by
  cases h with
  | tup ne h t => exact ⟨_, _, rfl, ne, h, t⟩
theorem isPair_len {ds : List PyData} (h : ds.length ≠ 2) : isPair (.tuple ds) = false := by
  match ds, h with
  | [], _ => rfl
  | [_], _ => rfl
  | [_, _], h => exact absurd rfl h
  | _ :: _ :: _ :: _, _ => rfl
theorem isPair_inv {d : PyData} (h : isPair d = true) : ∃ a b, d = .tuple [.str a, .int b] := by
  match d, h with
  | .tuple [a, b], h =>
    have h' : (isName a && within b 0 99) = true := h
    rw [Bool.and_eq_true] at h'
    obtain ⟨h1, h2⟩ := h'
    cases a with
    | str x =>
      cases b with
      | int i => exact ⟨_, _, rfl⟩
      | _ => exact absurd (show false = true from h2) Bool.false_ne_true
    | _ => exact absurd (show false = true from h1) Bool.false_ne_true
end
section
variable {P : Program} {K : PySem.W.Frag} {w : World} {base : Heap} {mg : Str → Option Value}
theorem scIsPair : FnScope ["value"] ["value"] (defScope sIsPair) := ⟨rfl, rfl, rfl, by decide +kernel, rfl, by decide +kernel, by decide +kernel⟩
theorem len2_true {n : Nat} (h : n = 2) : decide (V.int (n : Nat) = V.int 2) = true := by
  subst h
  exact decide_eq_true rfl
theorem intV_eq (a b : Int) : decide (V.int a = V.int b) = decide (a = b) := by
  by_cases h : a = b
  · subst h
    rw [decide_eq_true rfl, decide_eq_true rfl]
  · rw [decide_eq_false h, decide_eq_false fun e => h (V.int.inj e)]
theorem ok_pair {f : Addr} {fd : FuncData} (F : Fun K "_is_pair" "_is_pair" sIsPair f fd) (T : Cst K mg) (DN : Df P w K mg base 1 "is_name" ["value"] (spP isName)) (DV : Df P w K mg base 3 "is_value" ["value"] (spP fun d => within d 0 99)) :
    FnOk P w K mg base CX0 4 f fd ["value"] (spP isPair) := by
  obtain ⟨f1, fd1, G1, m1, k1, b1⟩ := DN.ex
  obtain ⟨f2, fd2, G2, m2, k2, b2⟩ := DV.ex
  refine F.ok scIsPair (fun vs H Q E h => ?_) (fun cdv A outer s H vs Q E hr h => ?_)
  · obtain ⟨m, z, k, v, d, rfl, _⟩ := h
    rfl
  · obtain ⟨m, z, k, v, d, rfl, hd, hw, q⟩ := h
    refine ⟨_, pss_one (ps_ret (pe_and (pe_callB call_isi (by rfl) T.isi (by decide +kernel) (pa_cons (pv 0) (pa_cons (pe_bltn (v := .ty "tuple") (by rfl) T.ttup (by decide +kernel) rfl) pa_nil)))
      (pe_and (pe_cmpR op_eq (pe_callB call_len_seq (by rfl) T.len PySem.boot_len (pa_cons (pv 0) pa_nil)) pe_int (nomark _))
      (pe_and (pe_call G1 (hr.mono (by decide)) (by rfl) m1 k1 b1 .nil pass0 (pa_cons (pe_ix ix_tup (pv 0) pe_int (fun _ _ => rfl)) pa_nil))
      (pe_one (pe_call G2 (hr.mono (by decide)) (by rfl) m2 k2 b2 .nil pass0 (pa_cons (pe_ix ix_tup (pv 0) pe_int (fun _ _ => rfl)) pa_nil))))))), ?_⟩
    have no : ∀ G, Same H G → isPair d = false → Q (.bl false) G := fun G s e => by
      rw [← e]
      exact q _ s
    refine ⟨_, rfl, v, _, _, _, _, rfl, .ty _, hd.ty, kit_tup d, _, rfl, ?_⟩
    cases d with
    | tuple ds =>
      refine iteT ?_
      obtain ⟨a, xs, rfl, ne, ht, hl⟩ := hd.tupD
      rw [w_tup] at hw
      refine ⟨_, rfl, a, xs, rfl, .inr ht.sq, rfl, _, rfl, ?_⟩
      rw [intV_eq]
      refine ite2 (fun e => ?_) fun e => no _ (Same.refl _) (isPair_len fun e2 => e ?_)
      · have e2 : xs.length = 2 := by
          have := of_decide_eq_true e
          omega
        obtain ⟨d1, d2, v1, v2, rfl, rfl, h1, h2⟩ : ∃ d1 d2 v1 v2, ds = [d1, d2] ∧ xs = [v1, v2] ∧ Dv m z H true v1 d1 ∧ Dv m z H true v2 d2 := by
          cases hl with
          | nil => simp at e2
          | cons h1 t1 =>
            cases t1 with
            | nil => simp at e2
            | cons h2 t2 =>
              cases t2 with
              | nil => exact ⟨_, _, _, _, rfl, rfl, h1, h2⟩
              | cons h3 t3 => simp at e2
        refine ⟨_, rfl, a, _, _, v1, rfl, rfl, ht.sq, atI_nat rfl, m, z, true, v1, d1, rfl, h1, Nat.le_trans (w_mem (by simp)) hw, fun G s1 => ⟨_, rfl, ?_⟩⟩
        refine ite2 (fun e3 => ?_) fun e3 => no _ s1 ?_
        · refine ⟨_, rfl, a, _, _, v2, rfl, rfl, (ht.to (But.of (z := z) s1) ne).sq, atI_nat rfl, m, z, true, v2, d2, rfl, Dv.to (But.of s1) _ _ _ h2, Nat.le_trans (w_mem (by simp)) hw, fun G2 s2 => ?_⟩
          have q2 : Q (.bl (isName d1 && within d2 0 99)) G2 := q _ (s1.trans s2)
          rw [show isName d1 = true from e3, Bool.true_and] at q2
          exact q2
        · show (isName d1 && within d2 0 99) = false
          rw [show isName d1 = false from Bool.eq_false_iff.mpr e3, Bool.false_and]
      · have := hl.len
        exact decide_eq_true (by omega); skip
    | _ => exact iteF (no _ (Same.refl _) rfl)
theorem scArePairs : FnScope ["value", "pair"] ["value"] (defScope sArePairs) := ⟨rfl, rfl, rfl, by decide +kernel, rfl, by decide +kernel, by decide +kernel⟩
theorem ok_are {f : Addr} {fd : FuncData} (F : Fun K "_are_pairs" "_are_pairs" sArePairs f fd) (T : Cst K mg) (DN : Df P w K mg base 4 "_is_pair" ["value"] (spP isPair)) :
    FnOk P w K mg base CX0 5 f fd ["value"] (spP arePairs) := by
  obtain ⟨f1, fd1, G1, m1, k1, b1⟩ := DN.ex
  obtain ⟨t2, m2⟩ := T.most
  refine F.ok scArePairs (fun vs H Q E h => ?_) (fun cdv A outer s H vs Q E hr h => ?_)
  · obtain ⟨m, z, k, v, d, rfl, _⟩ := h
    rfl
  · obtain ⟨m, z, k, v, d, rfl, hd, hw, q⟩ := h
    refine ⟨_, pss_cons (ps_if (PW.pt (pw_or (pt_not (pt_val (pe_callB call_isi (by rfl) T.isi (by decide +kernel) (pa_cons (pv 0) (pa_cons (pe_bltn (v := .ty "tuple") (by rfl) T.ttup (by decide +kernel) rfl) pa_nil)))))
        (pw_or1 (pt_cmpR op_gt (pe_callB call_len_seq (by rfl) T.len PySem.boot_len (pa_cons (pv 0) pa_nil)) (pe_glob (v := .int 4) (by rfl) m2 ⟨_, rfl⟩) (nomark _)))))
        (pss_one (ps_ret pe_bl)) pss_nil)
      (pss_cons (ps_if (pt_not (pt_val (pe_callB (cr_all rfl) (by rfl) T.all (by decide +kernel) (pa_cons (pe_lc (own := [("pair", 1)]) (g := gName 1) (tt := tYes) rfl scArePairs.nd (pi_tup (pv 0)) (blkOk_by (own := [("pair", 1)]) (N := ["value", "pair"]) (sc := defScope sArePairs) (by decide +kernel))
          (fun _ _ _ _ _ => pg_name (i := 1) scArePairs.nd rfl (Or.inl rfl)) (fun _ _ _ _ _ => pts_nil)
          (fun _ _ _ _ _ => pe_call G1 hr (by rfl) m1 k1 b1 .nil pass0 (pa_cons (pv 1) pa_nil))) pa_nil))))
        (pss_one (ps_ret pe_bl)) pss_nil)
      (pss_one (ps_ret (pe_cmpR op_eq (pe_lenSetK rfl (by rfl) T.len (by rfl) T.set (pe_lc (own := [("pair", 1)]) (g := gName 1) (tt := tYes) rfl scArePairs.nd (pi_tup (pv 0)) (blkOk_by (own := [("pair", 1)]) (N := ["value", "pair"]) (sc := defScope sArePairs) (by decide +kernel))
          (fun _ _ _ _ _ => pg_name (i := 1) scArePairs.nd rfl (Or.inl rfl)) (fun _ _ _ _ _ => pts_nil)
          (fun _ _ _ _ _ => pe_ix (r := rIxT K) ix_tup (pv 1) pe_int (fun _ _ => rfl))))
        (pe_callB call_len_seq (by rfl) T.len PySem.boot_len (pa_cons (pv 0) pa_nil)) (nomark _))))), ?_⟩
    have no : ∀ G, Same H G → arePairs d = false → Q (.bl false) G := fun G s e => by
      rw [← e]
      exact q _ s
    refine ⟨_, rfl, v, _, _, _, _, rfl, .ty _, hd.ty, kit_tup d, _, rfl, ?_⟩
    cases d with
    | tuple ds =>
      refine iteF ?_
      obtain ⟨a, xs, rfl, ne, ht, hl⟩ := hd.tupD
      rw [w_tup] at hw
      refine ⟨_, rfl, a, xs, rfl, .inr ht.sq, _, _, rfl, rfl, _, rfl, ?_⟩
      have hlen := hl.len
      refine ite2 (fun e1 => no _ (Same.refl _) ?_) fun e1 => ?_
      · have e2 := of_decide_eq_true e1
        show (decide (ds.length ≤ 4) && _ && _) = false
        rw [decide_eq_false (by omega), Bool.false_and, Bool.false_and]
      have e2 : ds.length ≤ 4 := by
        have : ¬ ((4 : Int) < (xs.length : Int)) := fun z => e1 (decide_eq_true z)
        omega
      have sm : ∀ i, i ≤ ds.length → i < sizeLine := fun i hi => small1000 (by omega)
      refine ⟨_, rfl, a, rfl, ⟨_, ht.sq⟩, fun D hD => lc_tup (K := K) (a := a) (xs := xs) (fun i G => Same H G ∧ G D = some (.lst ((ds.take i).map fun d => V.bl (isPair d)))) ⟨same_new hD, upd_same⟩ (fun i G _ ⟨s1, _⟩ => (ht.to (But.of (z := z) s1) ne).sq) ?_ ?_⟩
      · rintro i y G hy ⟨s1, s2⟩
        obtain ⟨d, hd1, hd2⟩ := hl.at' hy
        refine ⟨rfl, ?_⟩
        have hi : i < ds.length := (List.getElem?_eq_some_iff.mp hd1).1
        refine iteT (B := Same H G ∧ G D = some (.lst ((ds.take (i + 1)).map fun d => V.bl (isPair d)))) ⟨_, rfl, m, z, true, y, d, rfl, Dv.to (But.of s1) _ _ _ hd2, Nat.le_trans (w_mem (List.mem_of_getElem? hd1)) hw, fun G2 s3 => ⟨_, s3 _ _ s2, ?_, fun b o e => ?_, ?_⟩⟩
        · rw [List.length_map, List.length_take]; skip
          exact sm _ (Nat.min_le_right _ _)
        · rw [upd_ne (ne_of_none e hD)]
          exact s3 _ _ (s1 b o e)
        · rw [upd_same, take_snoc hd1, List.map_append]
          rfl
      · rintro G ⟨s1, s2⟩
        rw [hlen, List.take_length] at s2
        refine ⟨D, ds.map isPair, rfl, SqL.of (by rw [s2, List.map_map]; rfl), _, rfl, ?_⟩
        refine ite2 (fun e3 => no _ s1 ?_) fun e3 => ?_
        · have e4 : ds.all isPair = false := by
            rw [List.all_map] at e3
            simpa using e3
          show (decide (ds.length ≤ 4) && ds.all isPair && _) = false
          rw [e4, Bool.and_false, Bool.false_and]
        have e4 : ds.all isPair = true := by
          rw [List.all_map] at e3
          simpa using e3
        have hl1 : DvL m z G true xs ds := DvL.to (But.of s1) _ _ _ hl
        have ht1 := ht.to (But.of (z := z) s1) ne
        refine ⟨_, rfl, a, rfl, ⟨_, ht1.sq⟩, fun D2 hD2 => lc_tup (K := K) (a := a) (xs := xs) (fun i F => Same G F ∧ F D2 = some (.lst ((ds.take i).map fun d => V.str (nmOf d)))) ⟨same_new hD2, upd_same⟩ (fun i F _ ⟨s3, _⟩ => (ht1.to (But.of (z := z) s3) ne).sq) ?_ ?_⟩
        · rintro i y F hy ⟨s3, s4⟩
          obtain ⟨d, hd1, hd2⟩ := hl1.at' hy
          refine ⟨rfl, ?_⟩
          obtain ⟨nm, n, rfl⟩ := isPair_inv (List.all_eq_true.mp e4 d (List.mem_of_getElem? hd1))
          obtain ⟨a2, xs2, rfl, ne2, ht2, hl2⟩ := hd2.tupD
          have ht3 := ht2.to (But.of (z := z) s3) ne2
          cases hl2 with
          | cons q1 q2 =>
            cases q1
            refine iteT (B := Same G F ∧ F D2 = some (.lst ((ds.take (i + 1)).map fun d => V.str (nmOf d)))) ⟨_, rfl, a2, _, _, _, rfl, rfl, ht3.sq, atI_nat rfl, _, s4, ?_, fun b o e => ?_, ?_⟩
            · rw [List.length_map, List.length_take]; skip
              exact sm _ (Nat.min_le_right _ _)
            · rw [upd_ne (ne_of_none e hD2)]
              exact s3 b o e
            · rw [upd_same, take_snoc hd1, List.map_append]
              rfl
        · rintro F ⟨s3, s4⟩
          rw [hlen, List.take_length] at s4
          have ht3 := ht1.to (But.of (z := z) s3) ne
          refine ⟨D2, ds.map nmOf, rfl, by rw [s4, List.map_map]; rfl, by rw [List.length_map]; omega, _, rfl, a, xs, rfl, .inr ht3.sq, rfl, ?_⟩
          have q2 : Q (.bl (decide (ds.length ≤ 4) && ds.all isPair && decide ((dst (sK (ds.map nmOf))).length = ds.length))) F := q _ (s1.trans s3)
          rw [decide_eq_true e2, e4, Bool.true_and, Bool.true_and] at q2
          have e5 : decide (V.int ((dst (sK (ds.map nmOf))).length : Nat) = V.int (xs.length : Nat)) = decide ((dst (sK (ds.map nmOf))).length = ds.length) := by
            rw [intV_eq, hlen]
            by_cases h : (dst (sK (ds.map nmOf))).length = ds.length
            · rw [decide_eq_true h, decide_eq_true (by rw [h])]
            · rw [decide_eq_false h, decide_eq_false (by omega)]
          show Q (V.bl (decide (V.int ((dst (sK (ds.map nmOf))).length : Nat) = V.int (xs.length : Nat)))) F
          rw [e5]
          exact q2
    | _ => exact iteT (no _ (Same.refl _) rfl)
end
end Pl

namespace Pl
open L2 PySem PySem.Spec PyProof.Rows
theorem f2_len {g h : PyData → Bool} {ds : List PyData} (e : ds.length ≠ 2) : f2 g h ds = false := by
  match ds, e with
  | [], _ => rfl
  | [_], _ => rfl
  | [_, _], e => exact absurd rfl e
  | _ :: _ :: _ :: _, _ => rfl
theorem f1_len {g : PyData → Bool} {ds : List PyData} (e : ds.length ≠ 1) : f1 g ds = false := by
  match ds, e with
  | [], _ => rfl
  | [_], e => exact absurd rfl e
  | _ :: _ :: _, _ => rfl
/-- a predicate of the rest of a deed -/
def spF (f : List PyData → Bool) : Sp := fun vs H Q _ => ∃ (m : Bool) (z p : Addr) (ys : List V) (ds : List PyData), vs = [.ref p] ∧ H p = some (.lst ys) ∧ DvL m z H true ys ds ∧ PyData.weightAll ds ≤ 1000 ∧ ∀ H', Same H H' → Q (.bl (f ds)) H'
theorem two_of {m : Bool} {z : Addr} {H : Hp} {xs : List V} {ds : List PyData} (hl : DvL m z H true xs ds) (e2 : xs.length = 2) : ∃ d1 d2 v1 v2, ds = [d1, d2] ∧ xs = [v1, v2] ∧ Dv m z H true v1 d1 ∧ Dv m z H true v2 d2 := by
  cases hl with
  | nil => simp at e2
  | cons h1 t1 =>
    cases t1 with
    | nil => simp at e2
    | cons h2 t2 =>
      cases t2 with
      | nil => exact ⟨_, _, _, _, rfl, rfl, h1, h2⟩
      | cons h3 t3 => simp at e2
theorem one_of {m : Bool} {z : Addr} {H : Hp} {xs : List V} {ds : List PyData} (hl : DvL m z H true xs ds) (e2 : xs.length = 1) : ∃ d1 v1, ds = [d1] ∧ xs = [v1] ∧ Dv m z H true v1 d1 := by
  cases hl with
  | nil => simp at e2
  | cons h1 t1 =>
    cases t1 with
    | nil => exact ⟨_, _, rfl, rfl, h1⟩
    | cons h2 t2 => simp at e2
section
variable {P : Program} {K : PySem.W.Frag} {w : World} {base : Heap} {mg : Str → Option Value}

theorem sc_ok_put : FnScope ["parts"] ["parts"] (defScope sIsPut) := ⟨rfl, rfl, rfl, by decide +kernel, rfl, by decide +kernel, by decide +kernel⟩
theorem ok_put {f : Addr} {fd : FuncData} (F : Fun K "_is_put" "_is_put" sIsPut f fd) (T : Cst K mg) (D1 : Df P w K mg base 2 "is_key" ["value"] (spP pKey)) (D2 : Df P w K mg base 5 "_are_pairs" ["value"] (spP arePairs)) :
    FnOk P w K mg base CX0 6 f fd ["parts"] (spF (f2 pKey arePairs)) := by
  obtain ⟨g1, fd1, G1, m1, k1, b1⟩ := D1.ex
  obtain ⟨g2, fd2, G2, m2, k2, b2⟩ := D2.ex
  refine F.ok sc_ok_put (fun vs H Q E h => ?_) (fun cdv A outer s H vs Q E hr h => ?_)
  · obtain ⟨m, z, p, ys, ds, rfl, _⟩ := h
    rfl
  · obtain ⟨m, z, p, ys, ds, rfl, hp, hl, hw, q⟩ := h
    refine ⟨_, pss_one (ps_ret (pe_and (pe_cmpR op_eq (pe_callB call_len_seq (by rfl) T.len PySem.boot_len (pa_cons (pv 0) pa_nil)) pe_int (nomark _))
      (pe_and (pe_call G1 (hr.mono (by decide)) (by rfl) m1 k1 b1 .nil pass0 (pa_cons (pe_ix ix_list (pv 0) pe_int (fun _ _ => rfl)) pa_nil))
      (pe_one (pe_call G2 (hr.mono (by decide)) (by rfl) m2 k2 b2 .nil pass0 (pa_cons (pe_ix ix_list (pv 0) pe_int (fun _ _ => rfl)) pa_nil)))))), ?_⟩
    have no : ∀ G, Same H G → f2 pKey arePairs ds = false → Q (.bl false) G := fun G s e => by
      rw [← e]
      exact q _ s
    refine ⟨_, rfl, p, ys, rfl, .inl (SqL.of hp), rfl, _, rfl, ?_⟩
    rw [intV_eq]
    refine ite2 (fun e => ?_) fun e => no _ (Same.refl _) (f2_len fun e2 => e ?_)
    · have e2 : ys.length = 2 := by
        have := of_decide_eq_true e
        omega
      obtain ⟨d1, d2, v1, v2, rfl, rfl, h1, h2⟩ := two_of hl e2
      refine ⟨_, rfl, p, _, _, v1, rfl, rfl, SqL.of hp, atI_nat rfl, m, z, true, v1, d1, rfl, h1, Nat.le_trans (w_mem (by simp)) hw, fun G s1 => ⟨_, rfl, ?_⟩⟩
      refine ite2 (fun e3 => ?_) fun e3 => no _ s1 ?_
      · refine ⟨_, rfl, p, _, _, v2, rfl, rfl, SqL.of (s1 _ _ hp), atI_nat rfl, m, z, true, v2, d2, rfl, Dv.to (But.of s1) _ _ _ h2, Nat.le_trans (w_mem (by simp)) hw, fun G2 s2 => ?_⟩
        have q2 : Q (.bl (pKey d1 && arePairs d2)) G2 := q _ (s1.trans s2)
        rw [show pKey d1 = true from e3, Bool.true_and] at q2
        exact q2
      · show (pKey d1 && arePairs d2) = false
        rw [show pKey d1 = false from Bool.eq_false_iff.mpr e3, Bool.false_and]
    · have := hl.len
      exact decide_eq_true (by omega); skip

theorem sc_ok_strike : FnScope ["parts"] ["parts"] (defScope sIsStrike) := ⟨rfl, rfl, rfl, by decide +kernel, rfl, by decide +kernel, by decide +kernel⟩
theorem ok_strike {f : Addr} {fd : FuncData} (F : Fun K "_is_strike" "_is_strike" sIsStrike f fd) (T : Cst K mg) (D1 : Df P w K mg base 2 "is_key" ["value"] (spP pKey)) :
    FnOk P w K mg base CX0 3 f fd ["parts"] (spF (f1 pKey)) := by
  obtain ⟨g1, fd1, G1, m1, k1, b1⟩ := D1.ex
  refine F.ok sc_ok_strike (fun vs H Q E h => ?_) (fun cdv A outer s H vs Q E hr h => ?_)
  · obtain ⟨m, z, p, ys, ds, rfl, _⟩ := h
    rfl
  · obtain ⟨m, z, p, ys, ds, rfl, hp, hl, hw, q⟩ := h
    refine ⟨_, pss_one (ps_ret (pe_and (pe_cmpR op_eq (pe_callB call_len_seq (by rfl) T.len PySem.boot_len (pa_cons (pv 0) pa_nil)) pe_int (nomark _))
      (pe_one (pe_call G1 (hr.mono (by decide)) (by rfl) m1 k1 b1 .nil pass0 (pa_cons (pe_ix ix_list (pv 0) pe_int (fun _ _ => rfl)) pa_nil))))), ?_⟩
    have no : ∀ G, Same H G → f1 pKey ds = false → Q (.bl false) G := fun G s e => by
      rw [← e]
      exact q _ s
    refine ⟨_, rfl, p, ys, rfl, .inl (SqL.of hp), rfl, _, rfl, ?_⟩
    rw [intV_eq]
    refine ite2 (fun e => ?_) fun e => no _ (Same.refl _) (f1_len fun e2 => e ?_)
    · have e2 : ys.length = 1 := by
        have := of_decide_eq_true e
        omega
      obtain ⟨d1, v1, rfl, rfl, h1⟩ := one_of hl e2
      exact ⟨_, rfl, p, _, _, v1, rfl, rfl, SqL.of hp, atI_nat rfl, m, z, true, v1, d1, rfl, h1, Nat.le_trans (w_mem (by simp)) hw, fun G s1 => q G s1⟩
    · have := hl.len
      exact decide_eq_true (by omega); skip

theorem sc_ok_add : FnScope ["parts"] ["parts"] (defScope sIsAdd) := ⟨rfl, rfl, rfl, by decide +kernel, rfl, by decide +kernel, by decide +kernel⟩
theorem ok_add {f : Addr} {fd : FuncData} (F : Fun K "_is_add" "_is_add" sIsAdd f fd) (T : Cst K mg) (D1 : Df P w K mg base 1 "is_name" ["value"] (spP isName)) (D2 : Df P w K mg base 3 "is_value" ["value"] (spP pVal)) :
    FnOk P w K mg base CX0 4 f fd ["parts"] (spF (f2 isName pVal)) := by
  obtain ⟨g1, fd1, G1, m1, k1, b1⟩ := D1.ex
  obtain ⟨g2, fd2, G2, m2, k2, b2⟩ := D2.ex
  refine F.ok sc_ok_add (fun vs H Q E h => ?_) (fun cdv A outer s H vs Q E hr h => ?_)
  · obtain ⟨m, z, p, ys, ds, rfl, _⟩ := h
    rfl
  · obtain ⟨m, z, p, ys, ds, rfl, hp, hl, hw, q⟩ := h
    refine ⟨_, pss_one (ps_ret (pe_and (pe_cmpR op_eq (pe_callB call_len_seq (by rfl) T.len PySem.boot_len (pa_cons (pv 0) pa_nil)) pe_int (nomark _))
      (pe_and (pe_call G1 (hr.mono (by decide)) (by rfl) m1 k1 b1 .nil pass0 (pa_cons (pe_ix ix_list (pv 0) pe_int (fun _ _ => rfl)) pa_nil))
      (pe_one (pe_call G2 (hr.mono (by decide)) (by rfl) m2 k2 b2 .nil pass0 (pa_cons (pe_ix ix_list (pv 0) pe_int (fun _ _ => rfl)) pa_nil)))))), ?_⟩
    have no : ∀ G, Same H G → f2 isName pVal ds = false → Q (.bl false) G := fun G s e => by
      rw [← e]
      exact q _ s
    refine ⟨_, rfl, p, ys, rfl, .inl (SqL.of hp), rfl, _, rfl, ?_⟩
    rw [intV_eq]
    refine ite2 (fun e => ?_) fun e => no _ (Same.refl _) (f2_len fun e2 => e ?_)
    · have e2 : ys.length = 2 := by
        have := of_decide_eq_true e
        omega
      obtain ⟨d1, d2, v1, v2, rfl, rfl, h1, h2⟩ := two_of hl e2
      refine ⟨_, rfl, p, _, _, v1, rfl, rfl, SqL.of hp, atI_nat rfl, m, z, true, v1, d1, rfl, h1, Nat.le_trans (w_mem (by simp)) hw, fun G s1 => ⟨_, rfl, ?_⟩⟩
      refine ite2 (fun e3 => ?_) fun e3 => no _ s1 ?_
      · refine ⟨_, rfl, p, _, _, v2, rfl, rfl, SqL.of (s1 _ _ hp), atI_nat rfl, m, z, true, v2, d2, rfl, Dv.to (But.of s1) _ _ _ h2, Nat.le_trans (w_mem (by simp)) hw, fun G2 s2 => ?_⟩
        have q2 : Q (.bl (isName d1 && pVal d2)) G2 := q _ (s1.trans s2)
        rw [show isName d1 = true from e3, Bool.true_and] at q2
        exact q2
      · show (isName d1 && pVal d2) = false
        rw [show isName d1 = false from Bool.eq_false_iff.mpr e3, Bool.false_and]
    · have := hl.len
      exact decide_eq_true (by omega); skip

theorem sc_ok_drop : FnScope ["parts"] ["parts"] (defScope sIsDrop) := ⟨rfl, rfl, rfl, by decide +kernel, rfl, by decide +kernel, by decide +kernel⟩
theorem ok_drop {f : Addr} {fd : FuncData} (F : Fun K "_is_drop" "_is_drop" sIsDrop f fd) (T : Cst K mg) (D1 : Df P w K mg base 1 "is_name" ["value"] (spP isName)) :
    FnOk P w K mg base CX0 2 f fd ["parts"] (spF (f1 isName)) := by
  obtain ⟨g1, fd1, G1, m1, k1, b1⟩ := D1.ex
  refine F.ok sc_ok_drop (fun vs H Q E h => ?_) (fun cdv A outer s H vs Q E hr h => ?_)
  · obtain ⟨m, z, p, ys, ds, rfl, _⟩ := h
    rfl
  · obtain ⟨m, z, p, ys, ds, rfl, hp, hl, hw, q⟩ := h
    refine ⟨_, pss_one (ps_ret (pe_and (pe_cmpR op_eq (pe_callB call_len_seq (by rfl) T.len PySem.boot_len (pa_cons (pv 0) pa_nil)) pe_int (nomark _))
      (pe_one (pe_call G1 (hr.mono (by decide)) (by rfl) m1 k1 b1 .nil pass0 (pa_cons (pe_ix ix_list (pv 0) pe_int (fun _ _ => rfl)) pa_nil))))), ?_⟩
    have no : ∀ G, Same H G → f1 isName ds = false → Q (.bl false) G := fun G s e => by
      rw [← e]
      exact q _ s
    refine ⟨_, rfl, p, ys, rfl, .inl (SqL.of hp), rfl, _, rfl, ?_⟩
    rw [intV_eq]
    refine ite2 (fun e => ?_) fun e => no _ (Same.refl _) (f1_len fun e2 => e ?_)
    · have e2 : ys.length = 1 := by
        have := of_decide_eq_true e
        omega
      obtain ⟨d1, v1, rfl, rfl, h1⟩ := one_of hl e2
      exact ⟨_, rfl, p, _, _, v1, rfl, rfl, SqL.of hp, atI_nat rfl, m, z, true, v1, d1, rfl, h1, Nat.le_trans (w_mem (by simp)) hw, fun G s1 => q G s1⟩
    · have := hl.len
      exact decide_eq_true (by omega); skip

theorem sc_ok_rename : FnScope ["parts"] ["parts"] (defScope sIsRename) := ⟨rfl, rfl, rfl, by decide +kernel, rfl, by decide +kernel, by decide +kernel⟩
theorem ok_rename {f : Addr} {fd : FuncData} (F : Fun K "_is_rename" "_is_rename" sIsRename f fd) (T : Cst K mg) (D1 : Df P w K mg base 1 "is_name" ["value"] (spP isName)) (D2 : Df P w K mg base 1 "is_name" ["value"] (spP isName)) :
    FnOk P w K mg base CX0 2 f fd ["parts"] (spF (f2 isName isName)) := by
  obtain ⟨g1, fd1, G1, m1, k1, b1⟩ := D1.ex
  obtain ⟨g2, fd2, G2, m2, k2, b2⟩ := D2.ex
  refine F.ok sc_ok_rename (fun vs H Q E h => ?_) (fun cdv A outer s H vs Q E hr h => ?_)
  · obtain ⟨m, z, p, ys, ds, rfl, _⟩ := h
    rfl
  · obtain ⟨m, z, p, ys, ds, rfl, hp, hl, hw, q⟩ := h
    refine ⟨_, pss_one (ps_ret (pe_and (pe_cmpR op_eq (pe_callB call_len_seq (by rfl) T.len PySem.boot_len (pa_cons (pv 0) pa_nil)) pe_int (nomark _))
      (pe_and (pe_call G1 (hr.mono (by decide)) (by rfl) m1 k1 b1 .nil pass0 (pa_cons (pe_ix ix_list (pv 0) pe_int (fun _ _ => rfl)) pa_nil))
      (pe_one (pe_call G2 (hr.mono (by decide)) (by rfl) m2 k2 b2 .nil pass0 (pa_cons (pe_ix ix_list (pv 0) pe_int (fun _ _ => rfl)) pa_nil)))))), ?_⟩
    have no : ∀ G, Same H G → f2 isName isName ds = false → Q (.bl false) G := fun G s e => by
      rw [← e]
      exact q _ s
    refine ⟨_, rfl, p, ys, rfl, .inl (SqL.of hp), rfl, _, rfl, ?_⟩
    rw [intV_eq]
    refine ite2 (fun e => ?_) fun e => no _ (Same.refl _) (f2_len fun e2 => e ?_)
    · have e2 : ys.length = 2 := by
        have := of_decide_eq_true e
        omega
      obtain ⟨d1, d2, v1, v2, rfl, rfl, h1, h2⟩ := two_of hl e2
      refine ⟨_, rfl, p, _, _, v1, rfl, rfl, SqL.of hp, atI_nat rfl, m, z, true, v1, d1, rfl, h1, Nat.le_trans (w_mem (by simp)) hw, fun G s1 => ⟨_, rfl, ?_⟩⟩
      refine ite2 (fun e3 => ?_) fun e3 => no _ s1 ?_
      · refine ⟨_, rfl, p, _, _, v2, rfl, rfl, SqL.of (s1 _ _ hp), atI_nat rfl, m, z, true, v2, d2, rfl, Dv.to (But.of s1) _ _ _ h2, Nat.le_trans (w_mem (by simp)) hw, fun G2 s2 => ?_⟩
        have q2 : Q (.bl (isName d1 && isName d2)) G2 := q _ (s1.trans s2)
        rw [show isName d1 = true from e3, Bool.true_and] at q2
        exact q2
      · show (isName d1 && isName d2) = false
        rw [show isName d1 = false from Bool.eq_false_iff.mpr e3, Bool.false_and]
    · have := hl.len
      exact decide_eq_true (by omega); skip
end
end Pl

namespace Pl
open L2 PySem PySem.Spec PyProof.Rows
/-! ### a call of a local name that holds a def -/
def tCallH (Hd : Addr → Sp → Prop) (i : Nat) (t : TA) : TE := fun σ H Q => ∃ f sp, σ[i]? = some (some (.ref f)) ∧ Hd f sp ∧ t σ H fun vs H1 => sp vs H1 Q (fun _ _ _ => False)
section
variable {X : Cx} {k i : Nat} {x : Str} {p pos : Pos} {e : Expr} {es : List Expr} {t : TA}
theorem pe_callH (hr : Room k X.A) (hN : X.N[i]? = some x) (hv : Vis X.env.scope x) (ha : PA X (e :: es) t) (hdb : (x == ("__debug__" : Str)) = false := by decide) (hcd : (x == ("__classdict__" : Str)) = false := by decide)
    (he : starEach (e :: es) X.env = (false, eval e X.env) :: starEach es X.env := by rfl) (hpl : (backTo pos (starEach es X.env)).any (·.1) = false := by rfl) : PE X (.Call (.Name x p) (e :: es) [] pos) (tCallH (Held X.prog X.w X.K X.mg X.base k) i t) := by
  refine ⟨fun pins s σ H Q I h => ?_⟩; skip
  obtain ⟨f, sp, hs, hH, ht⟩ := h
  refine (pe_callA (S := fun g => if g = f then some sp else none) (fun g sq hg => ?_) hr hN hv ha hdb hcd he hpl).run pins s σ H Q I ⟨f, sp, hs, if_pos rfl, ht⟩
  by_cases h : g = f
  · subst h
    rw [if_pos rfl] at hg
    cases hg
    exact hH
  · rw [if_neg h] at hg
    cases hg
end
/-- the table of the forms: where it stands and what it has -/
structure FormsT (K : PySem.W.Frag) (w : World) (mg : Str → Option Value) (d f1 f2 f3 f4 f5 : Addr) : Prop where
  mg_ : mg "FORMS" = some (.ref d)
  kd : ∃ es n, KDict K w d es n
  get : ∀ z : Str, PySem.W.nsIn K d z = some (if z = "put" then some (.ref f1) else if z = "strike" then some (.ref f2) else if z = "add" then some (.ref f3) else if z = "drop" then some (.ref f4) else if z = "rename" then some (.ref f5) else none)
section
variable {P : Program} {w : World} {K : PySem.W.Frag} {mg : Str → Option Value} {base : Heap} {dF g1 g2 g3 g4 g5 : Addr}
theorem form_of (T : FormsT K w mg dF g1 g2 g3 g4 g5) (h1 : Held P w K mg base 6 g1 (spF (f2 pKey arePairs))) (h2 : Held P w K mg base 6 g2 (spF (Pl.f1 pKey))) (h3 : Held P w K mg base 6 g3 (spF (f2 isName pVal))) (h4 : Held P w K mg base 6 g4 (spF (Pl.f1 isName))) (h5 : Held P w K mg base 6 g5 (spF (f2 isName isName))) (x : Str) :
    (formP x = none ∧ PySem.W.nsIn K dF x = some none) ∨ ∃ f g, formP x = some f ∧ PySem.W.nsIn K dF x = some (some (.ref g)) ∧ Held P w K mg base 6 g (spF f) := by
  rw [T.get x]
  unfold formP
  by_cases e1 : x = "put"
  · rw [if_pos e1, if_pos e1]
    exact .inr ⟨_, _, rfl, rfl, h1⟩
  rw [if_neg e1, if_neg e1]
  by_cases e2 : x = "strike"
  · rw [if_pos e2, if_pos e2]
    exact .inr ⟨_, _, rfl, rfl, h2⟩
  rw [if_neg e2, if_neg e2]
  by_cases e3 : x = "add"
  · rw [if_pos e3, if_pos e3]
    exact .inr ⟨_, _, rfl, rfl, h3⟩
  rw [if_neg e3, if_neg e3]
  by_cases e4 : x = "drop"
  · rw [if_pos e4, if_pos e4]
    exact .inr ⟨_, _, rfl, rfl, h4⟩
  rw [if_neg e4, if_neg e4]
  by_cases e5 : x = "rename"
  · rw [if_pos e5, if_pos e5]
    exact .inr ⟨_, _, rfl, rfl, h5⟩
  rw [if_neg e5, if_neg e5]
  exact .inl ⟨rfl, rfl⟩
theorem scIsDeed : FnScope ["value", "moment", "word", "parts", "form"] ["value"] (defScope sIsDeed) := ⟨rfl, rfl, rfl, by decide +kernel, rfl, by decide +kernel, by decide +kernel⟩
theorem isDeed_len {ds : List PyData} (h : ds.length < 3) : isDeed (.tuple ds) = false := by
  match ds, h with
  | [], _ => rfl
  | [_], _ => rfl
  | [_, _], _ => rfl
  | _ :: _ :: _ :: _, h => simp at h; omega
theorem ok_deed {f : Addr} {fd : FuncData} (F : Fun K "is_deed" "is_deed" sIsDeed f fd) (T : Cst K mg) (D1 : Df P w K mg base 3 "is_moment" ["value"] (spP pMom)) (TF : FormsT K w mg dF g1 g2 g3 g4 g5)
    (forms : ∀ x : Str, (formP x = none ∧ PySem.W.nsIn K dF x = some none) ∨ ∃ f g, formP x = some f ∧ PySem.W.nsIn K dF x = some (some (.ref g)) ∧ Held P w K mg base 6 g (spF f)) :
    FnOk P w K mg base CX0 7 f fd ["value"] (spP isDeed) := by
  obtain ⟨e1, fd1, G1, m1, k1, b1⟩ := D1.ex
  obtain ⟨es, n, KD⟩ := TF.kd
  refine F.ok scIsDeed (fun vs H Q E h => ?_) (fun cdv A outer s H vs Q E hr h => ?_)
  · obtain ⟨m, z, k, v, d, rfl, _⟩ := h
    rfl
  · obtain ⟨m, z, k, v, d, rfl, hd, hw, q⟩ := h
    refine ⟨_, pss_cons (ps_if (PW.pt (pw_or (pt_not (pt_val (pe_callB call_isi (by rfl) T.isi (by decide +kernel) (pa_cons (pv 0) (pa_cons (pe_bltn (v := .ty "tuple") (by rfl) T.ttup (by decide +kernel) rfl) pa_nil)))))
        (pw_or1 (pt_cmpR op_lt (pe_callB call_len_seq (by rfl) T.len PySem.boot_len (pa_cons (pv 0) pa_nil)) pe_int (nomark _)))))
        (pss_one (ps_ret pe_bl)) pss_nil)
      (pss_cons (ps_asg (pv 0) (pg_star (k := 2) rfl (pgs_cons (pg_name (i := 1) scIsDeed.nd rfl (.inl rfl)) (pgs_cons (pg_name (i := 2) scIsDeed.nd rfl (.inl rfl)) (pgs_star (pg_name (i := 3) scIsDeed.nd rfl (.inl rfl)) pgs_nil)))))
      (pss_cons (ps_if (PW.pt (pw_or (pt_not (pt_val (pe_call G1 (hr.mono (by decide)) (by rfl) m1 k1 b1 .nil pass0 (pa_cons (pv 1) pa_nil))))
        (pw_or (pt_not (pt_val (pe_callB call_isi (by rfl) T.isi (by decide +kernel) (pa_cons (pv 2) (pa_cons (pe_bltn (v := .ty "str") (by rfl) T.tstr (by decide +kernel) rfl) pa_nil)))))
        (pw_or1 (pt_cmpR (op_notIn_kd KD) (pv 2) (pe_glob (v := .ref dF) (by rfl) TF.mg_ rfl) (by rfl))))))
        (pss_one (ps_ret pe_bl)) pss_nil)
      (pss_cons (ps_set (i := 4) scIsDeed.nd rfl (Or.inl rfl) (pe_ix ix_kdict (pe_glob (v := .ref dF) (by rfl) TF.mg_ rfl) (pv 2) (fun _ _ => rfl)))
      (pss_one (ps_ret (pe_callH (i := 4) hr rfl (Or.inl rfl) (pa_cons (pv 3) pa_nil))))))), ?_⟩
    have no : ∀ G, Same H G → isDeed d = false → Q (.bl false) G := fun G s e => by
      rw [← e]
      exact q _ s
    refine ⟨_, rfl, v, _, _, _, _, rfl, .ty _, hd.ty, kit_tup d, _, rfl, ?_⟩
    cases d with
    | tuple ds =>
      refine iteF ?_
      obtain ⟨a, xs, rfl, ne, ht, hl⟩ := hd.tupD
      rw [w_tup] at hw
      have hlen := hl.len
      refine ⟨_, rfl, a, xs, rfl, .inr ht.sq, _, _, rfl, rfl, _, rfl, ?_⟩
      refine ite2 (fun e1 => no _ (Same.refl _) (isDeed_len ?_)) fun e1 => ?_
      · have e2 := of_decide_eq_true e1
        omega
      have e2 : 3 ≤ ds.length := by
        have : ¬ ((xs.length : Int) < 3) := fun z => e1 (decide_eq_true z)
        omega
      cases hl with
      | nil => simp at e2
      | @cons _ v1 _ d1 _ h1 t1 =>
      cases t1 with
      | nil => simp at e2
      | @cons _ v2 _ d2 _ h2 t2 =>
      cases t2 with
      | nil => simp at e2
      | @cons _ v3 vr d3 dr h3 t3 =>
      refine ⟨_, rfl, a, _, rfl, ht.sq, by simp, fun p hp => ?_⟩
      have s1 : Same H (upd H p (.lst (v3 :: vr))) := same_new hp
      have hw1 : PyData.weightAll (d3 :: dr) ≤ 1000 := by
        simp only [PyData.weightAll] at hw ⊢
        omega
      have hd1 : isDeed (.tuple (d1 :: d2 :: d3 :: dr)) = (pMom d1 && isParts d2 (d3 :: dr)) := rfl
      refine ⟨v1, _, rfl, v2, _, rfl, .ref p, _, rfl, rfl, ?_⟩
      refine ⟨_, rfl, m, z, true, v1, d1, rfl, Dv.to (But.of s1) _ _ _ h1, Nat.le_trans (w_mem (by simp)) hw, fun G s2 => ⟨_, rfl, ?_⟩⟩
      have s3 := s1.trans s2
      refine ite2 (fun e3 => no _ s3 ?_) fun e3 => ?_
      · have e4 : pMom d1 = false := by simpa using e3
        rw [hd1, e4, Bool.false_and]
      have e4 : pMom d1 = true := by simpa using e3
      have h2' : Dv m z G true v2 d2 := Dv.to (But.of s3) _ _ _ h2
      refine ⟨_, rfl, v2, _, _, _, _, rfl, .ty _, h2'.ty, kit_str d2, _, rfl, ?_⟩
      cases d2 with
      | str x =>
        refine iteF ?_
        cases h2
        rcases forms x with ⟨f1, f2⟩ | ⟨f, g, f1, f2, f3⟩
        · refine ⟨_, rfl, x, _, rfl, rfl, f2, _, rfl, iteT (no _ s3 ?_)⟩
          rw [hd1]
          show (pMom d1 && (match formP x with
            | some f => f (d3 :: dr)
            | none => false)) = false
          rw [f1, Bool.and_false]
        · refine ⟨_, rfl, x, _, rfl, rfl, f2, _, rfl, iteF ?_⟩
          refine ⟨_, rfl, dF, x, .ref g, rfl, rfl, ⟨es, n, .ref g, KD.at_, KD.lit, f2, rfl⟩, ?_⟩
          refine ⟨g, _, rfl, f3, _, rfl, m, z, p, _, _, rfl, s2 _ _ upd_same, DvL.to (But.of s3) _ _ _ (.cons h3 t3), hw1, fun G2 s4 => ?_⟩
          have q2 := q G2 (s3.trans s4)
          rw [hd1, e4, Bool.true_and] at q2
          have e5 : isParts (.str x) (d3 :: dr) = f (d3 :: dr) := by
            show (match formP x with
              | some f => f (d3 :: dr)
              | none => false) = _
            rw [f1]
          rw [e5] at q2
          exact q2
      | _ =>
        refine iteT (no _ s3 ?_)
        rw [hd1]
        exact Bool.and_false _
    | _ => exact iteT (no _ (Same.refl _) rfl)
end
end Pl

namespace Pl
open L2 PySem PySem.Spec PyProof.Rows
abbrev sInit : Stmt := (inClass (top 2) 0)
/-- what the written part says of the error's class: C, made by the def at fI -/
structure ErrT (K : PySem.W.Frag) (mg : Str → Option Value) (C fI : Addr) : Prop where
  ox : OexC K C
  gC : mg "NoDeed" = some (.ref C)
  iC : PySem.W.findIn K (.ref C) "__init__" = some (some (.ref fI))
  tI : PySem.W.typeIn K (.ref fI) = some (.type "function")
  no : PySem.W.findIn K (.ref C) "told" = some none
def spInit (K : PySem.W.Frag) : Sp := fun vs H Q _ => ∃ (a C : Addr) (y : V), vs = [.ref a, y] ∧ OexC K C ∧ PySem.W.findIn K (.ref C) "told" = some none ∧ H a = some (exo a C none) ∧ ∀ dx, H dx = none → dx ≠ a → Q .non (upd (upd H dx (exd dx [("told", y)])) a (exo a C (some dx)))
/-- a def of the text that may raise, as its callers see it -/
structure DfX (P : Program) (w : World) (K : PySem.W.Frag) (mg : Str → Option Value) (base : Heap) (k : Nat) (x : Str) (ps : List Str) (sp : Sp) : Prop where
  ex : ∃ (f : Addr) (fd : FuncData), FnOk P w K mg base (L2.CX P w) k f fd ps sp ∧ mg x = some (.ref f) ∧ PySem.W.keepIn K (.ref f) = true ∧ Binds K fd ps []
/-- NoDeed(v) leaves -/
def Rais (C : Addr) (v : V) (H : Hp) (E : XK) : Prop := ∀ (d : Addr) (H' : Hp), Same H H' → H' d = some (.xd [("told", v)]) → E (.ref C) (some d) H'
/-- any data: right deeds go on, others are refused -/
def spD (C : Addr) (r : PyData → V → Hp → VK → Prop) : Sp := fun vs H Q E => ∃ (m : Bool) (z : Addr) (k : Bool) (v : V) (d : PyData), vs = [v] ∧ (∃ o, H z = some o) ∧ Dv m z H k v d ∧ d.weight ≤ 1000 ∧ (isDeed d = true → r d v H Q) ∧ (isDeed d = false → Rais C v H E)
section
variable {P : Program} {w : World} {K : PySem.W.Frag} {mg : Str → Option Value} {base : Heap} {C fI : Addr}
theorem scInit : FnScope ["self", "told"] ["self", "told"] (defScope sInit) := ⟨rfl, rfl, rfl, by decide +kernel, rfl, by decide +kernel, by decide +kernel⟩
theorem ok_init {f : Addr} {fd : FuncData} (F : Fun K "__init__" "NoDeed.__init__" sInit f fd) : FnOk P w K mg base CX0 1 f fd ["self", "told"] (spInit K) := by
  refine F.ok scInit (fun vs H Q E h => ?_) (fun cdv A outer s H vs Q E hr h => ?_)
  · obtain ⟨a, C, y, rfl, _⟩ := h
    rfl
  · obtain ⟨a, C, y, rfl, T, no, ha, q⟩ := h
    exact ⟨_, pss_one (ps_ost (pv 0) (pv 1)), y, rfl, .ref a, rfl, a, C, rfl, T, no, .inl ⟨ha, q⟩⟩
theorem scCheck : FnScope ["value"] ["value"] (defScope sCheck) := ⟨rfl, rfl, rfl, by decide +kernel, rfl, by decide +kernel, by decide +kernel⟩
theorem exo_not_none {H : Hp} {a : Addr} {o : HO} (h : H a = some o) (n : H a = none) : False := by
  rw [h] at n
  cases n
theorem ok_check {f : Addr} {fd fdI : FuncData} (F : Fun K "_check_deed" "_check_deed" sCheck f fd) (T : ErrT K mg C fI) (GI : FnOk P w K mg base CX0 1 fI fdI ["self", "told"] (spInit K)) (bI : Binds K fdI ["self", "told"] [])
    (D1 : Df P w K mg base 7 "is_deed" ["value"] (spP isDeed)) : FnOk P w K mg base (L2.CX P w) 8 f fd ["value"] (spD C fun _ _ H Q => ∀ H', Same H H' → Q .non H') := by
  obtain ⟨e1, fd1, G1, m1, k1, b1⟩ := D1.ex
  refine F.okX scCheck (fun vs H Q E h => ?_) (fun cdv A outer s H vs Q E hr h => ?_)
  · obtain ⟨m, z, k, v, d, rfl, _⟩ := h
    rfl
  · obtain ⟨m, z, k, v, d, rfl, hz, hd, hw, q1, q2⟩ := h
    refine ⟨_, pss_one (ps_if (pt_not (pt_val (pe_call G1 hr (by rfl) m1 k1 b1 .nil pass0 (pa_cons (pv 0) pa_nil))))
      (pss_one (ps_raise rfl (takes_of rfl rfl rfl rfl) (pmk_oex T.ox T.iC T.tI GI (hr.mono (by decide)) bI .nil pass0 (by rfl) T.gC (pa_cons (pv 0) pa_nil)))) pss_nil), ?_⟩
    refine ⟨v, rfl, m, z, k, v, d, rfl, hd, hw, fun G s1 => ⟨_, rfl, ?_⟩⟩
    refine ite2 (fun e => ?_) fun e => ?_
    · have e2 : isDeed d = false := by simpa using e
      refine ⟨v, rfl, by simp, fun a ha => ?_⟩
      refine ⟨a, C, v, rfl, T.ox, T.no, upd_same, fun dx hdx ne => ⟨rfl, dx, [(("told" : Str), v)], upd_same, ?_, ?_, ?_⟩⟩
      · rw [upd_ne ne, upd_same]
      · rw [upd_ne ne] at hdx
        exact hdx
      · have hdG : G dx = none := by
          rw [upd_ne ne] at hdx
          exact hdx
        refine q2 e2 dx _ (s1.trans fun b o hb => ?_) upd_same
        have n1 : b ≠ dx := ne_of_none hb hdG
        have n2 : b ≠ a := ne_of_none hb ha
        rw [upd_ne n1, del_ne n2, upd_ne n2, upd_ne n1, upd_ne n2]
        exact hb
    · have e2 : isDeed d = true := by simpa using e
      exact q1 e2 G s1
def altV : List V := [.str "add", .str "drop", .str "rename"]
/-- the word of a deed -/
def word : PyData → Str
  | .tuple (_ :: w :: _) => txt w
  | _ => LET
def isAlt (d : PyData) : Bool := inV (.str (word d)) altV
def third : PyData → PyData
  | .tuple (_ :: _ :: p :: _) => p
  | _ => .none
def keyD (d : PyData) : PyData := if isAlt d = true then .none else third d
theorem isDeed_inv {d : PyData} (h : isDeed d = true) : ∃ m x p r f, d = .tuple (m :: .str x :: p :: r) ∧ within m 1 999 = true ∧ formP x = some f ∧ f (p :: r) = true := by
  match d, h with
  | .tuple (m :: w :: p :: r), h =>
    have h' : (within m 1 999 && isParts w (p :: r)) = true := h
    rw [Bool.and_eq_true] at h'
    obtain ⟨h1, h2⟩ := h'
    cases w with
    | str x =>
      have h3 : (match formP x with
        | some f => f (p :: r)
        | none => false) = true := h2
      cases e : formP x with
      | none =>
        rw [e] at h3
        cases h3
      | some f =>
        rw [e] at h3
        exact ⟨m, x, p, r, f, rfl, h1, e, h3⟩
    | _ => exact absurd (show false = true from h2) Bool.false_ne_true
end
end Pl

namespace Pl
open PySem PySem.Spec PyProof.Rows L2 PySem.W
def valOf : PyData → Int
  | .tuple [_, .int n] => n
  | _ => 0
def prOf (d : PyData) : Str × Int := (nmOf d, valOf d)
def ordP : Str × Int → Str × Int → Bool := dataLe false encP
def itemsOf : PyData → List PyData
  | .tuple ps => ps
  | _ => []
def inOrd4 : PyData → PyData
  | .tuple [m, w, k, p] => .tuple [m, w, k, .tuple ((((itemsOf p).map prOf).mergeSort ordP).map encP)]
  | d => d
def inOrd (d : PyData) : PyData := if word d = "put" then inOrd4 d else d
theorem prs_of {m : Bool} {z : Addr} {H : Hp} : ∀ {ps : List PyData} {xs : List V}, DvL m z H true xs ps → ps.all isPair = true → ∃ bs : List PB, bs.map (·.1) = xs ∧ bs.map (fun b => encP b.2) = ps ∧ Prs m z H bs
  | [], _, h, _ => by
    cases h
    exact ⟨[], rfl, rfl, fun b hb => by cases hb⟩
  | d :: ps, _, h, e => by
    cases h with
    | @cons _ v vs _ _ h1 t1 =>
      rw [List.all_cons, Bool.and_eq_true] at e
      obtain ⟨bs, e1, e2, e3⟩ := prs_of t1 e.2
      obtain ⟨nm, n, rfl⟩ := isPair_inv e.1
      refine ⟨(v, nm, n) :: bs, by rw [List.map_cons, e1], by rw [List.map_cons, e2]; rfl, fun b hb => ?_⟩
      rcases List.mem_cons.mp hb with rfl | hb; skip
      · exact h1
      · exact e3 b hb
theorem dvl_prs {m : Bool} {z : Addr} {H : Hp} : ∀ {bs : List PB}, Prs m z H bs → DvL m z H true (bs.map (·.1)) (bs.map fun b => encP b.2)
  | [], _ => .nil
  | b :: bs, h => .cons (h b List.mem_cons_self) (dvl_prs fun c hc => h c (List.mem_cons_of_mem _ hc))
theorem Prs.sorted {m : Bool} {z : Addr} {H : Hp} {bs : List PB} (h : Prs m z H bs) (r : PB → PB → Bool) : Prs m z H (bs.mergeSort r) := fun b hb => h b (List.mem_mergeSort.mp hb)
theorem Prs.to {m : Bool} {z : Addr} {H G : Hp} {bs : List PB} (h : Prs m z H bs) (k : But z H G) : Prs m z G bs := fun b hb => Dv.to k _ _ _ (h b hb)
theorem prOf_enc (p : Str × Int) : prOf (encP p) = p := rfl
theorem sorted_snd (bs : List PB) : (bs.mergeSort leP).map (·.2) = (bs.map (·.2)).mergeSort ordP := sort_maps (f := Prod.snd) fun a _ b _ => rfl
theorem sorted_enc {bs : List PB} {ps : List PyData} (e : bs.map (fun b => encP b.2) = ps) : (bs.mergeSort leP).map (fun b => encP b.2) = ((ps.map prOf).mergeSort ordP).map encP := by
  have e1 : ps.map prOf = bs.map (·.2) := by
    rw [← e, List.map_map]
    rfl
  rw [e1, ← sorted_snd, List.map_map]
  rfl
section
variable {P : Program} {w : World} {K : PySem.W.Frag} {mg : Str → Option Value} {base : Heap} {C : Addr}
theorem scInOrder : FnScope ["deed", "moment", "word", "key", "pairs"] ["deed"] (defScope sInOrder) := ⟨rfl, rfl, rfl, by decide +kernel, rfl, by decide +kernel, by decide +kernel⟩
theorem form_put : formP "put" = some (f2 pKey arePairs) := by
  unfold formP
  rw [if_pos rfl]
theorem put_inv {p : PyData} {r : List PyData} (h : f2 pKey arePairs (p :: r) = true) : ∃ ps, r = [.tuple ps] ∧ ps.all isPair = true ∧ ps.length ≤ 4 := by
  match r, h with
  | [d], h =>
    have h' : (pKey p && arePairs d) = true := h
    rw [Bool.and_eq_true] at h'
    cases d with
    | tuple ps =>
      have h3 : (decide (ps.length ≤ 4) && ps.all isPair && decide ((dst (sK (ps.map nmOf))).length = ps.length)) = true := h'.2
      rw [Bool.and_eq_true, Bool.and_eq_true] at h3
      exact ⟨ps, rfl, h3.1.2, of_decide_eq_true h3.1.1⟩
    | _ => exact absurd (show false = true from h'.2) Bool.false_ne_true
theorem strV_eq (a b : Str) : decide (V.str a = V.str b) = decide (a = b) := by
  by_cases h : a = b
  · subst h
    rw [decide_eq_true rfl, decide_eq_true rfl]
  · rw [decide_eq_false h, decide_eq_false fun e => h (V.str.inj e)]
theorem ok_inorder {f : Addr} {fd : FuncData} (F : Fun K "in_order" "in_order" sInOrder f fd) (T : Cst K mg)
    (D1 : DfX P w K mg base 8 "_check_deed" ["value"] (spD C fun _ _ H Q => ∀ H', Same H H' → Q .non H')) : FnOk P w K mg base (L2.CX P w) 9 f fd ["deed"] (spD C fun d _ H Q => ∀ m z v' H', Same H H' → Dv m z H' false v' (inOrd d) → Q v' H') := by
  obtain ⟨e1, fd1, G1, m1, k1, b1⟩ := D1.ex
  refine F.okX scInOrder (fun vs H Q E h => ?_) (fun cdv A outer s H vs Q E hr h => ?_)
  · obtain ⟨m, z, k, v, d, rfl, _⟩ := h
    rfl
  · obtain ⟨m, z, k, v, d, rfl, hz, hd, hw, q1, q2⟩ := h
    refine ⟨_, pss_cons (ps_expr (pe_call (E := E) G1 hr (by rfl) m1 k1 b1 .nil (passes_call (takes_of rfl rfl rfl rfl) fun _ _ _ _ h => h) (pa_cons (pv 0) pa_nil)))
      (pss_cons (ps_if (pt_cmpR op_eq (pe_ix (r := rIxT K) ix_tup (pv 0) pe_int (fun _ _ => rfl)) pe_str (nomark _))
        (pss_cons (ps_asg (pv 0) (pg_tup (n := 4) rfl (pgs_cons (pg_name (i := 1) scInOrder.nd rfl (.inl rfl)) (pgs_cons (pg_name (i := 2) scInOrder.nd rfl (.inl rfl)) (pgs_cons (pg_name (i := 3) scInOrder.nd rfl (.inl rfl)) (pgs_cons (pg_name (i := 4) scInOrder.nd rfl (.inl rfl)) pgs_nil))))))
          (pss_one (ps_ret (pe_tup (pa_cons (pv 1) (pa_cons (pv 2) (pa_cons (pv 3) (pa_cons (pe_callTy call_tupF (by rfl) T.ttup (by decide +kernel)
            (pa_cons (pe_callB (cr_sortP (show (A.deeper _).units + 64 < cLine by have := hr.un; omega)) (by rfl) T.srt (by decide +kernel) (pa_cons (pv 4) pa_nil)) pa_nil)) pa_nil))))))))
        pss_nil) (pss_one (ps_ret (pv 0)))), ?_⟩
    refine ⟨v, rfl, m, z, k, v, d, rfl, hz, hd, hw, fun e G s1 => ?_, q2⟩
    have q3 := q1 e m z
    obtain ⟨md, x, p, r, f, rfl, hm, e3, e4⟩ := isDeed_inv e
    obtain ⟨a, xs, rfl, ne, ht, hl⟩ := hd.tupD
    have ht1 := ht.to (But.of (z := z) s1) ne
    have hl1 := DvL.to (But.of s1) _ _ _ hl
    cases hl1 with
    | @cons _ v1 _ _ _ h1 t1 =>
    cases t1 with
    | @cons _ v2 _ _ _ h2 t2 =>
    cases h2
    refine ⟨_, rfl, a, _, _, .str x, rfl, rfl, ht1.sq, atI_nat rfl, rfl, _, rfl, ?_⟩
    rw [strV_eq]
    refine ite2 (fun e5 => ?_) fun e5 => ?_
    · have e6 : x = "put" := of_decide_eq_true e5
      subst e6
      rw [form_put] at e3
      obtain rfl := Option.some.inj e3
      obtain ⟨ps, rfl, e7, e8⟩ := put_inv e4
      cases t2 with
      | @cons _ v3 _ _ _ h3 t3 =>
      cases t3 with
      | @cons _ v4 _ _ _ h4 t4 =>
      cases t4
      obtain ⟨a4, ys, rfl, ne4, ht4, hl4⟩ := h4.tupD
      obtain ⟨bs, eb, ed, hb⟩ := prs_of hl4 e7
      subst eb
      refine ⟨_, rfl, a, _, rfl, ht1.sq, rfl, v1, _, rfl, .str "put", _, rfl, v3, _, rfl, .ref a4, _, rfl, rfl, ?_⟩
      refine ⟨v1, rfl, .str "put", rfl, v3, rfl, .ref a4, rfl, m, z, a4, bs, rfl, ht4, hb, fun p1 hp1 => ?_⟩
      refine ⟨p1, _, rfl, upd_same, fun p2 o hp2 ho => ⟨by show 4 ≤ sizeLine; decide, fun p3 hp3 => ?_⟩⟩
      obtain ⟨oz, hz⟩ := hz
      have hL := dvl_prs (hb.sorted leP)
      generalize (bs.mergeSort leP).map (·.1) = L at hp2 hp3 hL ⊢
      have sA : Same G (upd G p1 (.lst L)) := same_new hp1
      have sB : Same (upd G p1 (.lst L)) (upd (upd G p1 (.lst L)) p2 (.frz o (.tup L))) := same_new hp2
      have sC : Same (upd (upd G p1 (.lst L)) p2 (.frz o (.tup L))) (upd (upd (upd G p1 (.lst L)) p2 (.frz o (.tup L))) p3 (.tup [v1, .str "put", v3, .ref p2])) := same_new hp3
      have hzG := s1 _ _ hz
      have n2 : z ≠ p2 := ne_of_none (sA _ _ hzG) hp2
      have n3 : z ≠ p3 := ne_of_none (sB _ _ (sA _ _ hzG)) hp3
      have sD := (sA.trans sB).trans sC
      refine q3 (.ref p3) _ (s1.trans sD) ?_
      have en : inOrd (.tuple [md, .str "put", p, .tuple ps]) = .tuple [md, .str "put", p, .tuple (((ps.map prOf).mergeSort ordP).map encP)] := by
        exact (if_pos (show word (.tuple [md, .str "put", p, .tuple ps]) = "put" from rfl)).trans rfl
      rw [en, ← sorted_enc ed]
      have kb : But z G (upd (upd (upd G p1 (.lst L)) p2 (.frz o (.tup L))) p3 (.tup [v1, .str "put", v3, .ref p2])) := But.of sD
      refine .tup n3.symm (.any upd_same) (.cons (Dv.to kb _ _ _ h1) (.cons (.str _) (.cons (Dv.to kb _ _ _ h3) (.cons (.tup n2.symm (.frz (o := o) (sC _ _ upd_same) ho) (DvL.to kb _ _ _ hL)) .nil))))
    · refine ⟨.ref a, rfl, q3 (.ref a) G s1 ?_⟩
      have en : inOrd (.tuple (md :: .str x :: p :: r)) = .tuple (md :: .str x :: p :: r) := by
        unfold inOrd
        exact if_neg fun h => e5 (decide_eq_true h)
      rw [en]
      exact (Dv.to (But.of s1) _ _ _ hd).weak
end
end Pl

namespace Pl
open L2 PySem PySem.Spec PyProof.Rows
abbrev sPool : Stmt := top 36
abbrev sTake : Stmt := top 37
abbrev sOne : Stmt := top 38
abbrev sTurned : Stmt := top 39
abbrev sRounds : Stmt := top 40
abbrev sCalled : Stmt := top 41
abbrev sNumber : Stmt := top 42
abbrev sPairs : Stmt := top 43
abbrev sDeed : Stmt := top 44
abbrev sDeeds : Stmt := top 45
/-- the source of draws stands at z -/
def Src (z : Addr) (H : Hp) : Prop := ∃ x y : Int, H z = some (.lst [.int x, .int y]) ∧ 0 ≤ x ∧ 0 ≤ y ∧ y < 2147483647
theorem Src.some {z : Addr} {H : Hp} (h : Src z H) : ∃ o, H z = some o := let ⟨x, y, e, _⟩ := h; ⟨_, e⟩
def spPool (K : PySem.W.Frag) : Sp := fun vs H Q _ => ∃ (a : Addr) (ns : List Int) (k : Int), vs = [.ref a, .int k] ∧ SqL K H a (ns.map V.int) ∧ 0 ≤ k ∧ k ≤ 10 ∧ ∀ p H', H p = none → Same H H' → Src p H' → Q (.ref p) H'
def spTake : Sp := fun vs H Q _ => ∃ (z : Addr) (t : Int), vs = [.ref z, .int t] ∧ Src z H ∧ 0 < t ∧ t ≤ 1000 ∧ ∀ (r : Int) (H' : Hp), 0 ≤ r → r < t → But z H H' → Src z H' → Q (.int r) H'
def spOne : Sp := fun vs H Q _ => ∃ (z l : Addr) (xs : List V), vs = [.ref z, .ref l] ∧ Src z H ∧ l ≠ z ∧ H l = some (.lst xs) ∧ xs ≠ [] ∧ xs.length ≤ 1000 ∧ ∀ (i : Nat) (v : V) (H' : Hp), xs[i]? = some v → But z H H' → Src z H' → Q v H'
structure Cs2 (mg : Str → Option Value) : Prop where
  max_ : mg "max" = none
  min_ : mg "min" = none
  lst : mg "list" = none
  rng : mg "range" = none
  rpr : mg "repr" = none
  dct : mg "dict" = none
section
variable {P : Program} {K : PySem.W.Frag} {w : World} {base : Heap} {mg : Str → Option Value}
theorem scPool : FnScope ["_law_script", "_law_k", "_law_cell", "_law_big", "_law_mixed"] ["_law_script", "_law_k"] (defScope sPool) := ⟨rfl, rfl, rfl, by decide +kernel, rfl, by decide +kernel, by decide +kernel⟩
theorem ok_pool {f : Addr} {fd : FuncData} (F : Fun K "_law_pool" "_law_pool" sPool f fd) (T : Cst K mg) (T2 : Cs2 mg) : FnOk P w K mg base CX0 1 f fd ["_law_script", "_law_k"] (spPool K) := by
  refine F.ok scPool (fun vs H Q E h => ?_) (fun cdv A outer s H vs Q E hr h => ?_)
  · obtain ⟨a, ns, k, rfl, _⟩ := h; skip
    rfl
  · obtain ⟨a, ns, k, rfl, hS, k0, k1, q⟩ := h
    refine ⟨_, pss_cons (ps_set (i := 2) scPool.nd rfl (Or.inl rfl) pe_int)
      (pss_cons (ps_if (pt_cmpR op_lt (pv 1) (pe_callB call_len_seq (by rfl) T.len PySem.boot_len (pa_cons (pv 0) pa_nil)) (nomark _))
        (pss_one (ps_set (i := 2) scPool.nd rfl (Or.inl rfl) (pe_ix ix_list (pv 0) (pv 1) (fun _ _ => rfl)))) pss_nil)
      (pss_cons (ps_set (i := 3) scPool.nd rfl (Or.inl rfl) (pe_callB (call_max2 rfl) (by rfl) T2.max_ (by decide +kernel) (pa_cons (pe_callTy call_int1 (by rfl) T.tint (by decide +kernel) (pa_cons (pv 2) pa_nil))
        (pa_cons (pe_callTy call_int1 (by rfl) T.tint (by decide +kernel) (pa_cons (pe_op op_sub (pe_un un_neg pe_int) (pv 2)) pa_nil)) pa_nil))))
      (pss_cons (ps_set (i := 4) scPool.nd rfl (Or.inl rfl) (pe_op op_mod (pe_callTy call_int1 (by rfl) T.tint (by decide +kernel) (pa_cons
          (pe_op op_mul (pe_op op_add (pe_op op_add (pe_op op_add (pe_op op_mod (pe_callTy call_int1 (by rfl) T.tint (by decide +kernel) (pa_cons (pv 3) pa_nil)) pe_int) (pe_op op_mul (pe_op op_mul pe_int (pv 1)) (pv 1))) (pe_op op_mul pe_int (pv 1))) pe_int) pe_int) pa_nil)) pe_int))
      (pss_one (ps_ret (pe_lst (pa_cons (pe_op op_mul (pv 3) (pe_callTy call_int1 (by rfl) T.tint (by decide +kernel) (pa_cons (pe_cmpR op_ge (pv 3) (pe_op op_pow pe_int pe_int) (nomark _)) pa_nil))) (pa_cons (pv 4) pa_nil)))))))), ?_⟩
    have hbig : ∀ c : Int, 0 ≤ (if (-1 - c) > c then (-1 - c) else c) := fun c => by
      split <;> omega
    have fin : ∀ (b : Int) (p : Addr) (G : Hp), 0 ≤ b → H p = none → Same H G → G p = some (.lst [.int (b * (if decide (b ≥ 10 ^ 18) = true then 1 else 0)), .int (((b % 2147483629 + 7919 * k * k + 31 * k + 17) * 48271) % 2147483647)]) → Q (.ref p) G := fun b p G hb hp sG hG => by
      refine q p G hp sG ⟨_, _, hG, ?_, Int.emod_nonneg _ (by decide), Int.emod_lt_of_pos _ (by decide)⟩
      refine Int.mul_nonneg hb ?_
      split <;> decide
    have bnd : ∀ b : Int, 0 ≤ b % 2147483629 ∧ b % 2147483629 < 2147483629 := fun b => ⟨Int.emod_nonneg _ (by decide), Int.emod_lt_of_pos _ (by decide)⟩
    have kk : 0 ≤ 7919 * k ∧ 7919 * k ≤ 79190 := ⟨by omega, by omega⟩
    have kk2 : 0 ≤ 7919 * k * k ∧ 7919 * k * k ≤ 791900 := ⟨Int.mul_nonneg kk.1 k0, by
      have := Int.mul_le_mul kk.2 k1 k0 (by omega)
      omega⟩
    refine ⟨_, rfl, _, rfl, a, _, rfl, .inl hS, _, _, rfl, rfl, _, rfl, ?_⟩; skip
    refine ite2 (fun e => ?_) fun e => ?_
    · obtain ⟨j, rfl⟩ : ∃ j : Nat, k = j := ⟨k.toNat, by omega⟩
      have hj : j < ns.length := by
        have := of_decide_eq_true e
        rw [List.length_map] at this
        omega
      refine ⟨_, rfl, _, rfl, a, _, _, .int ns[j], rfl, rfl, hS, atI_nat (by rw [List.getElem?_map, List.getElem?_eq_getElem hj]; rfl), ?_⟩
      refine ⟨_, rfl, .inl ⟨_, rfl, ?_⟩⟩
      refine ⟨_, rfl, _, rfl, _, _, rfl, rfl, .inl ⟨_, rfl, ?_⟩⟩
      refine ⟨_, _, rfl, ?_⟩
      have hb := hbig (ns[j])
      revert hb
      generalize (if (-1 - ns[j]) > ns[j] then (-1 - ns[j]) else ns[j]) = b
      intro hb
      have h1 := bnd b
      refine ⟨_, rfl, .inl ⟨_, rfl, _, _, rfl, rfl, (by show (0 : Int) < 2147483629; decide), ?_⟩⟩
      refine ⟨_, rfl, _, _, rfl, rfl, .inl ⟨by decide, by decide⟩, _, rfl, _, _, rfl, rfl, .inl ⟨by omega, by omega⟩, ?_⟩
      refine ⟨_, _, rfl, rfl, _, rfl, _, _, rfl, rfl, .inl ⟨by decide, by decide⟩, _, _, rfl, rfl, _, _, rfl, rfl, ?_⟩
      refine ⟨_, _, rfl, rfl, .inl ⟨by omega, by omega⟩, .inl ⟨_, rfl, _, _, rfl, rfl, (by show (0 : Int) < 2147483647; decide), ?_⟩⟩
      refine ⟨_, rfl, _, rfl, _, _, rfl, rfl, ⟨by decide, by decide, by decide⟩, _, _, rfl, rfl, .inr ⟨_, rfl, _, _, rfl, rfl, .inr ⟨?_, ?_⟩, _, rfl, (by show 2 ≤ sizeLine; decide), fun p hp => fin b p _ hb hp (same_new hp) upd_same⟩⟩
      · split <;> decide
      · split <;> decide
    · refine ⟨_, rfl, .inl ⟨_, rfl, ?_⟩⟩
      refine ⟨_, rfl, _, rfl, _, _, rfl, rfl, .inl ⟨_, rfl, ?_⟩⟩
      refine ⟨_, _, rfl, ?_⟩
      have hb := hbig (0)
      revert hb
      generalize (if (-1 - 0) > 0 then (-1 - 0) else 0) = b
      intro hb
      have h1 := bnd b
      refine ⟨_, rfl, .inl ⟨_, rfl, _, _, rfl, rfl, (by show (0 : Int) < 2147483629; decide), ?_⟩⟩
      refine ⟨_, rfl, _, _, rfl, rfl, .inl ⟨by decide, by decide⟩, _, rfl, _, _, rfl, rfl, .inl ⟨by omega, by omega⟩, ?_⟩
      refine ⟨_, _, rfl, rfl, _, rfl, _, _, rfl, rfl, .inl ⟨by decide, by decide⟩, _, _, rfl, rfl, _, _, rfl, rfl, ?_⟩
      refine ⟨_, _, rfl, rfl, .inl ⟨by omega, by omega⟩, .inl ⟨_, rfl, _, _, rfl, rfl, (by show (0 : Int) < 2147483647; decide), ?_⟩⟩
      refine ⟨_, rfl, _, rfl, _, _, rfl, rfl, ⟨by decide, by decide, by decide⟩, _, _, rfl, rfl, .inr ⟨_, rfl, _, _, rfl, rfl, .inr ⟨?_, ?_⟩, _, rfl, (by show 2 ≤ sizeLine; decide), fun p hp => fin b p _ hb hp (same_new hp) upd_same⟩⟩
      · split <;> decide
      · split <;> decide
end
end Pl

namespace Pl
open L2 PySem PySem.Spec PyProof.Rows
section
variable {P : Program} {K : PySem.W.Frag} {w : World} {base : Heap} {mg : Str → Option Value}
theorem scTake : FnScope ["_law_source", "_law_top", "_law_told"] ["_law_source", "_law_top"] (defScope sTake) := ⟨rfl, rfl, rfl, by decide +kernel, rfl, by decide +kernel, by decide +kernel⟩
theorem ok_take {f : Addr} {fd : FuncData} (F : Fun K "_law_take" "_law_take" sTake f fd) (T : Cst K mg) : FnOk P w K mg base CX0 1 f fd ["_law_source", "_law_top"] spTake := by
  refine F.ok scTake (fun vs H Q E h => ?_) (fun cdv A outer s H vs Q E hr h => ?_)
  · obtain ⟨z, t, rfl, _⟩ := h
    rfl
  · obtain ⟨z, t, rfl, ⟨x, y, hz, x0, y0, y1⟩, t0, t1, q⟩ := h
    refine ⟨_, pss_cons (ps_if (pt_cmpR op_gt (pe_ix ix_list (pv 0) pe_int (fun _ _ => rfl)) pe_int (nomark _))
        (pss_cons (ps_set (i := 2) scTake.nd rfl (Or.inl rfl) (pe_op op_mod (pe_callTy call_int1 (by rfl) T.tint (by decide +kernel) (pa_cons (pe_ix ix_list (pv 0) pe_int (fun _ _ => rfl)) pa_nil)) (pv 1)))
        (pss_cons (ps_asg (pe_op op_fdiv (pe_ix ix_list (pv 0) pe_int (fun _ _ => rfl)) (pv 1)) (pg_sub (pv 0) pe_int L2.set_list))
        (pss_one (ps_ret (pv 2))))) pss_nil)
      (pss_cons (ps_asg (pe_op op_mod (pe_callTy call_int1 (by rfl) T.tint (by decide +kernel) (pa_cons (pe_op op_add (pe_op op_mul (pe_ix ix_list (pv 0) pe_int (fun _ _ => rfl)) pe_int) pe_int) pa_nil)) pe_int) (pg_sub (pv 0) pe_int L2.set_list))
      (pss_one (ps_ret (pe_op op_mod (pe_callTy call_int1 (by rfl) T.tint (by decide +kernel) (pa_cons (pe_op op_fdiv (pe_op op_mod (pe_callTy call_int1 (by rfl) T.tint (by decide +kernel) (pa_cons (pe_op op_mul (pe_ix ix_list (pv 0) pe_int (fun _ _ => rfl)) (pe_ix ix_list (pv 0) pe_int (fun _ _ => rfl))) pa_nil)) pe_int) pe_int) pa_nil)) (pv 1))))), ?_⟩
    refine ⟨_, rfl, z, _, _, .int x, rfl, rfl, SqL.of hz, atI_nat (j := 0) rfl, _, _, rfl, rfl, _, rfl, ?_⟩
    refine ite2 (fun e => ?_) fun e => ?_
    · refine ⟨_, rfl, z, _, _, .int x, rfl, rfl, SqL.of hz, atI_nat (j := 0) rfl, .inl ⟨_, rfl, _, rfl, _, _, rfl, rfl, t0, ?_⟩⟩
      refine ⟨_, rfl, z, _, _, .int x, rfl, rfl, SqL.of hz, atI_nat (j := 0) rfl, _, rfl, _, _, rfl, rfl, ⟨t0, by omega⟩, ?_⟩
      refine ⟨_, rfl, z, _, _, 0, rfl, rfl, hz, rfl, _, rfl, ?_⟩
      exact q _ _ (Int.emod_nonneg _ (by omega)) (Int.emod_lt_of_pos _ t0) But.upd ⟨_, _, upd_same, Int.ediv_nonneg x0 (by omega), y0, y1⟩
    · refine ⟨_, rfl, z, _, _, .int y, rfl, rfl, SqL.of hz, atI_nat (j := 1) rfl, _, _, rfl, rfl, .inl ⟨by omega, by omega⟩, _, _, rfl, rfl, .inl ⟨_, rfl, _, _, rfl, rfl, (by show (0 : Int) < 2147483647; decide), ?_⟩⟩
      have h2 : 0 ≤ (y * 39373 + 7) % 2147483647 ∧ (y * 39373 + 7) % 2147483647 < 2147483647 := ⟨Int.emod_nonneg _ (by decide), Int.emod_lt_of_pos _ (by decide)⟩
      refine ⟨_, rfl, z, _, _, 1, rfl, rfl, hz, rfl, ?_⟩
      have hz2 : upd H z (.lst ([V.int x, V.int y].set 1 (V.int ((y * 39373 + 7) % 2147483647)))) z = some (.lst [.int x, .int ((y * 39373 + 7) % 2147483647)]) := upd_same
      refine ⟨_, rfl, z, _, _, .int ((y * 39373 + 7) % 2147483647), rfl, rfl, SqL.of hz2, atI_nat (j := 1) rfl, _, rfl, z, _, _, .int ((y * 39373 + 7) % 2147483647), rfl, rfl, SqL.of hz2, atI_nat (j := 1) rfl, _, _, rfl, rfl, .inl ⟨by omega, by omega⟩, .inl ⟨_, rfl, _, _, rfl, rfl, (by show (0 : Int) < 2147483629; decide), ?_⟩⟩
      refine ⟨_, _, rfl, rfl, ⟨by decide, by decide⟩, .inl ⟨_, rfl, _, rfl, _, _, rfl, rfl, t0, ?_⟩⟩
      exact q _ _ (Int.emod_nonneg _ (by omega)) (Int.emod_lt_of_pos _ t0) But.upd ⟨_, _, hz2, x0, h2.1, h2.2⟩
/-- a draw of this text, as its callers see it -/
abbrev DTake (P : Program) (w : World) (K : PySem.W.Frag) (mg : Str → Option Value) (base : Heap) := Df P w K mg base 1 "_law_take" ["_law_source", "_law_top"] spTake
theorem scOne : FnScope ["_law_source", "_law_things"] ["_law_source", "_law_things"] (defScope sOne) := ⟨rfl, rfl, rfl, by decide +kernel, rfl, by decide +kernel, by decide +kernel⟩
theorem ok_one {f : Addr} {fd : FuncData} (F : Fun K "_law_one" "_law_one" sOne f fd) (T : Cst K mg) (D : DTake P w K mg base) : FnOk P w K mg base CX0 2 f fd ["_law_source", "_law_things"] spOne := by
  obtain ⟨g, fdT, GT, mT, kT, bT⟩ := D.ex
  refine F.ok scOne (fun vs H Q E h => ?_) (fun cdv A outer s H vs Q E hr h => ?_)
  · obtain ⟨z, l, xs, rfl, _⟩ := h
    rfl
  · obtain ⟨z, l, xs, rfl, hz, ne, hl, hne, hlen, q⟩ := h
    refine ⟨_, pss_one (ps_ret (pe_ix ix_list (pv 1) (pe_call GT hr (by rfl) mT kT bT .nil pass0 (pa_cons (pv 0) (pa_cons (pe_callB call_len_seq (by rfl) T.len PySem.boot_len (pa_cons (pv 1) pa_nil)) pa_nil))) (fun _ _ => rfl))), ?_⟩
    have pos : 0 < xs.length := List.length_pos_iff.mpr hne
    refine ⟨_, rfl, _, rfl, _, rfl, l, _, rfl, .inl (SqL.of hl), z, _, rfl, hz, by omega, by omega, fun r G r0 r1 b1 s1 => ?_⟩
    obtain ⟨j, rfl⟩ : ∃ j : Nat, r = j := ⟨r.toNat, by omega⟩
    have hj : j < xs.length := by omega
    have e : xs[j]? = some xs[j] := List.getElem?_eq_getElem hj
    exact ⟨l, _, _, xs[j], rfl, rfl, SqL.of (b1 _ _ ne NoT.lst hl), atI_nat e, q j _ G e b1 s1⟩
end
end Pl

namespace Pl
open L2 PySem PySem.Spec PyProof.Rows
theorem erase_map {α β : Type} (f : α → β) : ∀ (l : List α) (j : Nat), (l.map f).eraseIdx j = (l.eraseIdx j).map f
  | [], _ => rfl
  | _ :: _, 0 => rfl
  | a :: l, j + 1 => congrArg (f a :: ·) (erase_map f l j)
theorem seq_nat {j n : Nat} (h : j < n) : seqIndex? (j : Int) n = some j := by
  have h0 : ¬ ((j : Int) < 0) := by omega
  unfold seqIndex?
  simp [h0, h]
theorem Src.new {z p : Addr} {H : Hp} {o : HO} (h : Src z H) (hp : H p = none) : Src z (upd H p o) := by
  obtain ⟨x, y, e, r⟩ := h
  exact ⟨x, y, (upd_ne (ne_of_none e hp)).trans e, r⟩
theorem Src.set {z p : Addr} {H : Hp} {o : HO} (h : Src z H) (hp : p ≠ z) : Src z (upd H p o) := by
  obtain ⟨x, y, e, r⟩ := h
  exact ⟨x, y, (upd_ne hp.symm).trans e, r⟩
/-- a list of texts; back comes a new list of some of them -/
def okL (d : PyData) : Prop := d.canLay0 = true ∧ d.depth ≤ 10
def spTurned : Sp := fun vs H Q _ => ∃ (z l : Addr) (L : List (V × PyData)), vs = [.ref z, .ref l] ∧ Src z H ∧ l ≠ z ∧ H l = some (.lst (L.map (·.1))) ∧ L.length ≤ 1000 ∧ (∀ q ∈ L, Dv false z H true q.1 q.2 ∧ okL q.2) ∧
  ∀ (p : Addr) (M : List (V × PyData)) (G : Hp), But z H G → Src z G → p ≠ z → H p = none → G p = some (.lst (M.map (·.1))) → M.Perm L → Q (.ref p) G
section
variable {K : PySem.W.Frag} {z : Addr} {H : Hp}
mutual
theorem Dv.dp : ∀ (k : Bool) (d : PyData) (v : V), Dv false z H k v d → Dp K H v d
  | _, .none, _, h => by cases h; exact .non
  | _, .bool _, _, h => by cases h; exact .bl _
  | _, .int _, _, h => by cases h; exact .int _
  | _, .str _, _, h => by cases h; exact .str _
  | _, .list ds, _, h => by
    cases h with
    | lst hm ne h t => exact .lst (SqL.of h) (DvL.dp _ ds _ t)
  | _, .tuple ds, _, h => by
    cases h with
    | tup ne h t => exact .tup h.sq (DvL.dp _ ds _ t)
  | _, .dict _, _, h => by
    cases h with
    | dct hm ne h => cases hm
theorem DvL.dp : ∀ (k : Bool) (ds : List PyData) (vs : List V), DvL false z H k vs ds → DpAll K H vs ds
  | _, [], _, h => by cases h; exact .nil
  | _, d :: ds, _, h => by
    cases h with
    | cons a t => exact .cons (Dv.dp _ d _ a) (DvL.dp _ ds _ t)
end
theorem dps_of : ∀ {L : List (V × PyData)}, (∀ q ∈ L, Dv false z H true q.1 q.2) → DpAll K H (L.map (·.1)) (L.map (·.2))
  | [], _ => .nil
  | q :: L, h => .cons (Dv.dp _ _ _ (h q List.mem_cons_self)) (dps_of fun r hr => h r (List.mem_cons_of_mem _ hr))
end
theorem lay_all : ∀ {ds : List PyData}, (∀ d ∈ ds, okL d) → PyData.canLayAll0 ds = true ∧ PyData.depthAll ds ≤ 10
  | [], _ => by
    refine ⟨by simp only [PyData.canLayAll0], by simp [PyData.depthAll]⟩
  | d :: ds, h => by
    obtain ⟨a, b⟩ := lay_all fun e he => h e (List.mem_cons_of_mem _ he)
    obtain ⟨c, e⟩ := h d List.mem_cons_self
    refine ⟨by simp only [PyData.canLayAll0, a, c, Bool.and_self], ?_⟩
    simp only [PyData.depthAll]
    omega
theorem shaped_all {ds : List PyData} (h : ∀ d ∈ ds, okL d) : SeqAt.shaped (.list ds) = true := by
  obtain ⟨h1, h2⟩ := lay_all h
  unfold SeqAt.shaped
  rw [Bool.and_eq_true]
  refine ⟨by simp only [PyData.canLay0]; exact h1, decide_eq_true ?_⟩
  simp only [PyData.depth]
  omega
theorem eqv_nilD (ds : List PyData) : PyData.eqv (.list ds) (.list []) = decide (ds.length = 0) := by
  cases ds with
  | nil => simp [PyData.eqv, PyData.eqvAll]
  | cons s ss => simp [PyData.eqv, PyData.eqvAll]
theorem erase_perm {α : Type} : ∀ (l : List α) (j : Nat) (h : j < l.length), (l.eraseIdx j ++ [l[j]]).Perm l
  | [], j, h => absurd h (Nat.not_lt_zero _)
  | x :: l, 0, _ => (List.perm_append_singleton x l)
  | x :: l, j + 1, h => (erase_perm l j (Nat.lt_of_succ_lt_succ h)).cons x
section
variable {P : Program} {K : PySem.W.Frag} {w : World} {base : Heap} {mg : Str → Option Value}
theorem scTurned : FnScope ["_law_source", "_law_things", "_law_left", "_law_found"] ["_law_source", "_law_things"] (defScope sTurned) := ⟨rfl, rfl, rfl, by decide +kernel, rfl, by decide +kernel, by decide +kernel⟩
theorem ok_turned {f : Addr} {fd : FuncData} (F : Fun K "_law_turned" "_law_turned" sTurned f fd) (T : Cst K mg) (T2 : Cs2 mg) (D : DTake P w K mg base) : FnOk P w K mg base CX0 2 f fd ["_law_source", "_law_things"] spTurned := by
  obtain ⟨g, fdT, GT, mT, kT, bT⟩ := D.ex
  refine F.ok scTurned (fun vs H Q E h => ?_) (fun cdv A outer s H vs Q E hr h => ?_)
  · obtain ⟨z, l, xs, rfl, _⟩ := h
    rfl
  · obtain ⟨z, l, L, rfl, hz, ne, hl, hlen, hok, q⟩ := h
    refine ⟨_, pss_cons (ps_par (i := 2) (j := 3) (by rfl) scTurned.nd rfl rfl (by decide) rfl rfl (pa_cons (pe_callTy call_list_of (by rfl) T2.lst (by decide +kernel) (pa_cons (pv 1) pa_nil)) (pa_cons (pe_lst pa_nil) pa_nil)) (by rfl))
      (pss_cons (ps_while PassesOwn.never (pt_cmpR (op_neD (show (A.deeper _).units + 64 < cLine by have := hr.un; omega)) (pv 2) (pe_lst pa_nil) (nomark _))
        (pss_one (ps_expr (pe_bm PySem.F.plainAttrs_list PySem.F.slot_list_append PySem.F.type_list_append mt_append (pv 3) (pa_cons
          (pe_bm PySem.F.plainAttrs_list PySem.F.slot_list_pop PySem.F.type_list_pop mt_popAt (pv 2) (pa_cons (pe_call GT hr (by rfl) mT kT bT .nil pass0 (pa_cons (pv 0) (pa_cons (pe_callB call_len_seq (by rfl) T.len PySem.boot_len (pa_cons (pv 2) pa_nil)) pa_nil))) pa_nil)) pa_nil)))))
      (pss_one (ps_ret (pv 3)))), ?_⟩
    refine ⟨_, rfl, l, _, rfl, .inl (SqL.of hl), fun p hp => ⟨by show 0 ≤ sizeLine; decide, fun p2 hp2 => ⟨_, _, rfl, ?_⟩⟩⟩
    obtain ⟨oz, hzo⟩ := hz.some
    have nz : p ≠ z := (ne_of_none hzo hp).symm
    have hzo1 : upd H p (.lst (L.map (·.1))) z = some oz := (upd_ne nz.symm).trans hzo
    have nz2 : p2 ≠ z := (ne_of_none hzo1 hp2).symm
    have npp : p ≠ p2 := ne_of_none (upd_same (H := H)) hp2
    have hp2H : H p2 = none := by
      rw [upd_ne npp.symm] at hp2
      exact hp2
    have b1 : But z H (upd (upd H p (.lst (L.map (·.1)))) p2 (.lst [])) := (But.new hp).trans (But.new hp2)
    have s1 : Src z (upd (upd H p (.lst (L.map (·.1)))) p2 (.lst [])) := by
      obtain ⟨x, y, e, r⟩ := hz
      exact ⟨x, y, by rw [upd_ne nz2.symm, upd_ne nz.symm]; exact e, r⟩
    refine ⟨fun m σ G => σ = [some (.ref z), some (.ref l), some (.ref p), some (.ref p2)] ∧ ∃ ls ts : List (V × PyData), G p = some (.lst (ls.map (·.1))) ∧ G p2 = some (.lst (ts.map (·.1))) ∧ m = ls.length ∧ (ls ++ ts).Perm L ∧ But z H G ∧ Src z G, ⟨_,
      ⟨rfl, L, [], by rw [upd_ne npp, upd_same], by rw [upd_same]; rfl, rfl, by rw [List.append_nil], b1, s1⟩⟩, ?_⟩
    rintro m σ G ⟨rfl, ls, ts, hp1, hp3, rfl, pm, bG, sG⟩
    have hll := pm.length_eq
    rw [List.length_append] at hll
    have mem : ∀ q ∈ ls, q ∈ L := fun q hq => pm.mem_iff.mp (List.mem_append_left _ hq)
    have bG4 : ∀ {p4 : Addr}, G p4 = none → But z G (upd G p4 (.lst [])) := fun e => But.new e
    refine ⟨_, rfl, by show 0 ≤ sizeLine; decide, fun p4 hp4 => ⟨_, _, .lst (SqL.of ((upd_ne (ne_of_none hp1 hp4)).trans hp1)) (dps_of fun q hq => Dv.to (bG.trans (bG4 hp4)) _ _ _ (hok q (mem q hq)).1), .lst (SqL.of upd_same) .nil, shaped_all (fun d hd => by
      obtain ⟨q, hq, rfl⟩ := List.mem_map.mp hd; skip
      exact (hok q (mem q hq)).2), by decide +kernel, _, rfl, ?_⟩⟩
    rw [eqv_nilD, List.length_map]
    have bG4 : But z G (upd G p4 (.lst [])) := But.new hp4
    have sG4 : Src z (upd G p4 (.lst [])) := by
      obtain ⟨x, y, e, r⟩ := sG
      exact ⟨x, y, (upd_ne (ne_of_none e hp4)).trans e, r⟩
    have h1 : upd G p4 (.lst []) p = some (.lst (ls.map (·.1))) := (upd_ne (ne_of_none hp1 hp4)).trans hp1
    have h2 : upd G p4 (.lst []) p2 = some (.lst (ts.map (·.1))) := (upd_ne (ne_of_none hp3 hp4)).trans hp3
    refine ite2 (fun e => ?_) fun e => ?_
    · have pos : 0 < ls.length := by
        have : ¬ ls.length = 0 := by simpa using e
        omega
      refine ⟨_, fun σ' H' h => ⟨ls.length - 1, by omega, h⟩, ?_⟩
      refine ⟨_, rfl, .inl ⟨rfl, _, SqL.of h2⟩, _, rfl, .inl ⟨rfl, _, SqL.of h1⟩, _, rfl, _, rfl, p, _, rfl, .inl (SqL.of h1), z, _, rfl, sG4, by rw [List.length_map]; omega, by rw [List.length_map]; omega, fun r G2 r0 r1 b2 s2 => ?_⟩
      rw [List.length_map] at r1
      obtain ⟨j, rfl⟩ : ∃ j : Nat, r = j := ⟨r.toNat, by omega⟩
      have hj : j < ls.length := by omega
      have k1 := b2 _ _ nz NoT.lst h1
      have k2 := b2 _ _ nz2 NoT.lst h2
      refine ⟨p, _, _, j, ls[j].1, rfl, rfl, k1, by omega, by omega, ?_, by rw [List.getElem?_map, List.getElem?_eq_getElem hj]; rfl, ?_⟩
      · rw [List.length_map]
        exact seq_nat hj
      refine ⟨p2, _, _, rfl, rfl, (upd_ne npp.symm).trans k2, ?_, ?_⟩
      · rw [List.length_map]
        exact small1000 (by omega)
      refine ⟨rfl, ls.eraseIdx j, ts ++ [ls[j]], by rw [upd_ne npp, upd_same, erase_map], by rw [upd_same, List.map_append]; rfl, by rw [List.length_eraseIdx_of_lt hj], ?_, ?_, (s2.set nz).set nz2⟩
      · refine List.Perm.trans ?_ pm
        have e1 : ls.eraseIdx j ++ (ts ++ [ls[j]]) = (ls.eraseIdx j ++ ts) ++ [ls[j]] := (List.append_assoc _ _ _).symm
        rw [e1]
        refine ((List.perm_append_comm (l₁ := ls.eraseIdx j) (l₂ := ts)).append_right _).trans ?_
        rw [List.append_assoc]
        exact ((erase_perm ls j hj).append_left ts).trans List.perm_append_comm
      · intro b o hb ho e
        have n1 : b ≠ p := ne_of_none e hp
        have n2 : b ≠ p2 := ne_of_none ((upd_ne n1).trans e) hp2
        rw [upd_ne n2, upd_ne n1]
        exact b2 _ _ hb ho (bG4 _ _ hb ho (bG _ _ hb ho e))
    · have e0 : ls.length = 0 := by simpa using e
      cases ls with
      | cons a b => cases e0
      | nil => exact ⟨_, rfl, q p2 ts _ (bG.trans bG4) sG4 nz2 hp2H h2 pm⟩
end
end Pl

namespace Pl
open L2 PySem PySem.Spec PyProof.Rows
def nameL : List Str := ["a", "b", "c", "x", "yy", "zzz", "abcd", "aa", "aaa", "q"]
def Nms (ss : List Str) : Prop := ss ≠ [] ∧ ss.length ≤ 5 ∧ ∀ s ∈ ss, s ∈ nameL
def NmsU (ss : List Str) : Prop := Nms ss ∧ ss.Nodup ∧ ("q" : Str) ∉ ss ∧ ss.length ≤ 4
def spRounds (K : PySem.W.Frag) : Sp := fun vs H Q _ => ∃ (a : Addr) (ns : List Int), vs = [.ref a] ∧ SqL K H a (ns.map V.int) ∧ ∀ (p : Addr) (n : Nat) (H' : Hp), n ≤ 4 → Same H H' → H' p = some (.lst (rgV 0 n)) → Q (.ref p) H'
def spCalled : Sp := fun vs H Q _ => ∃ (z : Addr), vs = [.ref z] ∧ Src z H ∧ ∀ (p : Addr) (ss : List Str) (G : Hp), But z H G → Src z G → p ≠ z → G p = some (.lst (ss.map V.str)) → NmsU ss → Q (.ref p) G
def spNumber : Sp := fun vs H Q _ => ∃ (z : Addr), vs = [.ref z] ∧ Src z H ∧ ∀ (n : Int) (G : Hp), 0 ≤ n → n ≤ 99 → But z H G → Src z G → Q (.int n) G
section
variable {P : Program} {K : PySem.W.Frag} {w : World} {base : Heap} {mg : Str → Option Value}
abbrev DOne (P : Program) (w : World) (K : PySem.W.Frag) (mg : Str → Option Value) (base : Heap) := Df P w K mg base 2 "_law_one" ["_law_source", "_law_things"] spOne
theorem scRounds : FnScope ["_law_script"] ["_law_script"] (defScope sRounds) := ⟨rfl, rfl, rfl, by decide +kernel, rfl, by decide +kernel, by decide +kernel⟩
theorem ok_rounds {f : Addr} {fd : FuncData} (F : Fun K "_law_rounds" "_law_rounds" sRounds f fd) (T : Cst K mg) (T2 : Cs2 mg) : FnOk P w K mg base CX0 1 f fd ["_law_script"] (spRounds K) := by
  refine F.ok scRounds (fun vs H Q E h => ?_) (fun cdv A outer s H vs Q E hr h => ?_)
  · obtain ⟨a, ns, rfl, _⟩ := h
    rfl
  · obtain ⟨a, ns, rfl, hS, q⟩ := h
    refine ⟨_, pss_one (ps_ret (pe_listRg rfl (by rfl) T2.lst (prg_1 (by rfl) T2.rng (pe_callB (call_max2 rfl) (by rfl) T2.max_ (by decide +kernel) (pa_cons pe_int (pa_cons
      (pe_callB (call_min2 rfl) (by rfl) T2.min_ (by decide +kernel) (pa_cons (pe_callB call_len_seq (by rfl) T.len PySem.boot_len (pa_cons (pv 0) pa_nil)) (pa_cons pe_int pa_nil))) pa_nil)))))), ?_⟩
    refine ⟨_, rfl, a, _, rfl, .inl hS, _, _, rfl, _, _, rfl, _, rfl, ?_⟩
    generalize hn : (if (if (4 : Int) < ((ns.map V.int).length : Nat) then (4 : Int) else ((ns.map V.int).length : Nat)) > 1 then (if (4 : Int) < ((ns.map V.int).length : Nat) then (4 : Int) else ((ns.map V.int).length : Nat)) else (1 : Int)) = n
    have h1 : 1 ≤ n ∧ n ≤ 4 := by
      rw [← hn]
      split <;> split <;> omega
    obtain ⟨m, rfl⟩ : ∃ m : Nat, n = m := ⟨n.toNat, by omega⟩
    exact ⟨RgOk.of_le (by omega) (by omega) (by omega) (by omega), fun p hp => q p m _ (by omega) (same_new hp) upd_same⟩
theorem scCalled : FnScope ["_law_source"] ["_law_source"] (defScope sCalled) := ⟨rfl, rfl, rfl, by decide +kernel, rfl, by decide +kernel, by decide +kernel⟩
theorem ok_called {f : Addr} {fd : FuncData} (F : Fun K "_law_called" "_law_called" sCalled f fd) (D : DOne P w K mg base) : FnOk P w K mg base CX0 3 f fd ["_law_source"] spCalled := by
  obtain ⟨g, fdT, GT, mT, kT, bT⟩ := D.ex
  refine F.ok scCalled (fun vs H Q E h => ?_) (fun cdv A outer s H vs Q E hr h => ?_)
  · obtain ⟨z, rfl, _⟩ := h
    rfl
  · obtain ⟨z, rfl, hz, q⟩ := h
    refine ⟨_, pss_one (ps_ret (pe_call GT hr (by rfl) mT kT bT .nil pass0 (pa_cons (pv 0) (pa_cons (pe_lst
      (pa_cons (pe_lst (pa_cons pe_str (pa_cons pe_str pa_nil)))
      (pa_cons (pe_lst (pa_cons pe_str (pa_cons pe_str (pa_cons pe_str pa_nil))))
      (pa_cons (pe_lst (pa_cons pe_str (pa_cons pe_str (pa_cons pe_str (pa_cons pe_str pa_nil)))))
      (pa_cons (pe_lst (pa_cons pe_str (pa_cons pe_str (pa_cons pe_str pa_nil)))) pa_nil))))) pa_nil)))), ?_⟩
    refine ⟨_, rfl, by show 2 ≤ sizeLine; decide, fun p1 e1 => ⟨by show 3 ≤ sizeLine; decide, fun p2 e2 => ⟨by show 4 ≤ sizeLine; decide, fun p3 e3 => ⟨by show 3 ≤ sizeLine; decide, fun p4 e4 => ⟨by show 4 ≤ sizeLine; decide, fun p5 e5 => ?_⟩⟩⟩⟩⟩
    obtain ⟨oz, hzo⟩ := hz.some
    have s1 := same_new (o := HO.lst [V.str "a", V.str "b"]) e1
    have s2 := same_new (o := HO.lst [V.str "a", V.str "b", V.str "c"]) e2
    have s3 := same_new (o := HO.lst [V.str "x", V.str "yy", V.str "zzz", V.str "abcd"]) e3
    have s4 := same_new (o := HO.lst [V.str "a", V.str "aa", V.str "aaa"]) e4
    have s5 := same_new (o := HO.lst [.ref p1, .ref p2, .ref p3, .ref p4]) e5
    have z1 := s1 _ _ hzo
    have z2 := s2 _ _ z1
    have z3 := s3 _ _ z2
    have z4 := s4 _ _ z3
    have n1 : p1 ≠ z := (ne_of_none hzo e1).symm
    have n2 : p2 ≠ z := (ne_of_none z1 e2).symm
    have n3 : p3 ≠ z := (ne_of_none z2 e3).symm
    have n4 : p4 ≠ z := (ne_of_none z3 e4).symm
    have n5 : p5 ≠ z := (ne_of_none z4 e5).symm
    have b5 := But.of (z := z) ((((s1.trans s2).trans s3).trans s4).trans s5)
    have k1 := s5 _ _ (s4 _ _ (s3 _ _ (s2 p1 _ upd_same)))
    have k2 := s5 _ _ (s4 _ _ (s3 p2 _ upd_same))
    have k3 := s5 _ _ (s4 p3 _ upd_same)
    have k4 := s5 p4 _ upd_same
    refine ⟨z, p5, _, rfl, ((((hz.new e1).new e2).new e3).new e4).new e5, n5, upd_same, by simp, by show 4 ≤ 1000; decide, fun i v G hi bG sG => ?_⟩
    have hm := List.mem_of_getElem? hi; skip
    simp only [List.mem_cons, List.not_mem_nil, or_false] at hm; skip
    rcases hm with rfl | rfl | rfl | rfl; skip
    · exact q p1 ["a", "b"] G (b5.trans bG) sG n1 (bG _ _ n1 NoT.lst k1) ⟨⟨by simp, by decide, by decide +kernel⟩, by decide +kernel, by decide +kernel, by decide⟩
    · exact q p2 ["a", "b", "c"] G (b5.trans bG) sG n2 (bG _ _ n2 NoT.lst k2) ⟨⟨by simp, by decide, by decide +kernel⟩, by decide +kernel, by decide +kernel, by decide⟩
    · exact q p3 ["x", "yy", "zzz", "abcd"] G (b5.trans bG) sG n3 (bG _ _ n3 NoT.lst k3) ⟨⟨by simp, by decide, by decide +kernel⟩, by decide +kernel, by decide +kernel, by decide⟩
    · exact q p4 ["a", "aa", "aaa"] G (b5.trans bG) sG n4 (bG _ _ n4 NoT.lst k4) ⟨⟨by simp, by decide, by decide +kernel⟩, by decide +kernel, by decide +kernel, by decide⟩
theorem scNumber : FnScope ["_law_source"] ["_law_source"] (defScope sNumber) := ⟨rfl, rfl, rfl, by decide +kernel, rfl, by decide +kernel, by decide +kernel⟩
theorem ok_drawn {f : Addr} {fd : FuncData} (F : Fun K "_law_number" "_law_number" sNumber f fd) (D : DOne P w K mg base) : FnOk P w K mg base CX0 3 f fd ["_law_source"] spNumber := by
  obtain ⟨g, fdT, GT, mT, kT, bT⟩ := D.ex
  refine F.ok scNumber (fun vs H Q E h => ?_) (fun cdv A outer s H vs Q E hr h => ?_)
  · obtain ⟨z, rfl, _⟩ := h
    rfl
  · obtain ⟨z, rfl, hz, q⟩ := h
    refine ⟨_, pss_one (ps_ret (pe_call GT hr (by rfl) mT kT bT .nil pass0 (pa_cons (pv 0) (pa_cons (pe_lst
      (pa_cons pe_int (pa_cons pe_int (pa_cons pe_int (pa_cons pe_int (pa_cons pe_int pa_nil)))))) pa_nil)))), ?_⟩
    refine ⟨_, rfl, by show 5 ≤ sizeLine; decide, fun p hp => ?_⟩
    obtain ⟨oz, hzo⟩ := hz.some
    refine ⟨z, p, _, rfl, hz.new hp, (ne_of_none hzo hp).symm, upd_same, by simp, by show 5 ≤ 1000; decide, fun i v G hi bG sG => ?_⟩
    have hm := List.mem_of_getElem? hi; skip
    simp only [List.mem_cons, List.not_mem_nil, or_false] at hm; skip
    have bb := (But.new (z := z) hp).trans bG
    rcases hm with rfl | rfl | rfl | rfl | rfl <;> exact q _ G (by decide) (by decide) bb sG
end
end Pl

namespace Pl
open L2 PySem PySem.Spec PyProof.Rows
def strL : List Str := nameL ++ (["put", "strike", "add", "drop", "rename", "Put", "set", "", "A", "a1", "abcde", "a "] : List Str)
mutual
def lf : PyData → Bool
  | .none | .bool _ => true
  | .int i => decide (-1 ≤ i) && decide (i ≤ 2000)
  | .str x => decide (x ∈ strL)
  | .list xs | .tuple xs => lfA xs
  | .dict kvs => kvs.isEmpty
def lfA : List PyData → Bool
  | [] => true
  | x :: xs => lf x && lfA xs
end
theorem str_props {x : Str} (h : x ∈ strL) : PyData.strOk x = true ∧ x.cps.size ≤ 6 ∧ (x.cps.toList.all fun c => decide (c < 16 ^ 8)) = true := by
  have e : (strL.all fun x => PyData.strOk x && decide (x.cps.size ≤ 6) && (x.cps.toList.all fun c => decide (c < 16 ^ 8))) = true := by decide +kernel
  have := List.all_eq_true.mp e x h
  rw [Bool.and_eq_true, Bool.and_eq_true] at this
  exact ⟨this.1.1, of_decide_eq_true this.1.2, this.2⟩
theorem int_log {i : Int} (h0 : -1 ≤ i) (h1 : i ≤ 2000) : i.natAbs.log2 ≤ 10 := by
  by_cases h : i.natAbs = 0
  · rw [h]
    decide
  · have := (Nat.log2_lt h (k := 11)).mpr (by omega)
    omega
theorem int_short {i : Int} (h0 : -1 ≤ i) (h1 : i ≤ 2000) : (PyData.shown (.int i)).length ≤ 13 := by
  have e : ((List.range 2002).all fun (n : Nat) => decide ((PyData.shown (.int (((n : Nat) : Int) - 1))).length ≤ 13)) = true := by decide +kernel
  have := List.all_eq_true.mp e (i + 1).toNat (List.mem_range.mpr (by omega))
  have e2 : (((i + 1).toNat : Nat) : Int) - 1 = i := by omega
  rw [e2] at this
  exact of_decide_eq_true this
mutual
theorem lf_props : ∀ d : PyData, lf d = true → d.showable = true ∧ d.leavesShort 13 = true
  | .none, _ => ⟨by simp only [PyData.showable], by simp only [PyData.leavesShort]⟩
  | .bool _, _ => ⟨by simp only [PyData.showable], by simp only [PyData.leavesShort]⟩
  | .int i, h => by
    simp only [lf, Bool.and_eq_true, decide_eq_true_eq] at h
    have := int_log h.1 h.2
    exact ⟨by simp only [PyData.showable]; exact decide_eq_true (by omega), by simp only [PyData.leavesShort]; exact decide_eq_true (int_short h.1 h.2)⟩
  | .str x, h => by
    simp only [lf, decide_eq_true_eq] at h
    exact ⟨by simp only [PyData.showable], by simp only [PyData.leavesShort]; exact (str_props h).2.2⟩
  | .list xs, h => by
    simp only [lf] at h
    obtain ⟨h1, h2⟩ := lfA_props xs h
    exact ⟨by simp only [PyData.showable]; exact h1, by simp only [PyData.leavesShort]; exact h2⟩
  | .tuple xs, h => by
    simp only [lf] at h
    obtain ⟨h1, h2⟩ := lfA_props xs h
    exact ⟨by simp only [PyData.showable]; exact h1, by simp only [PyData.leavesShort]; exact h2⟩
  | .dict kvs, h => by
    simp only [lf] at h
    cases kvs with
    | nil => exact ⟨by simp only [PyData.showable, PyData.showableKv], by simp only [PyData.leavesShort, PyData.leavesShortKv]⟩
    | cons a b => cases h
theorem lfA_props : ∀ ds : List PyData, lfA ds = true → PyData.showableAll ds = true ∧ PyData.leavesShortAll 13 ds = true
  | [], _ => ⟨by simp only [PyData.showableAll], by simp only [PyData.leavesShortAll]⟩
  | d :: ds, h => by
    simp only [lfA, Bool.and_eq_true] at h
    obtain ⟨h1, h2⟩ := lf_props d h.1
    obtain ⟨h3, h4⟩ := lfA_props ds h.2
    exact ⟨by simp only [PyData.showableAll, h1, h3, Bool.and_self], by simp only [PyData.leavesShortAll, h2, h4, Bool.and_self]⟩
end
/-- data of few leaves -/
structure Bd (W D : Nat) (d : PyData) : Prop where
  l : lf d = true
  w : d.weight ≤ W
  p : d.depth ≤ D
structure BdA (W D : Nat) (ds : List PyData) : Prop where
  l : lfA ds = true
  w : PyData.weightAll ds ≤ W
  p : PyData.depthAll ds ≤ D
theorem Bd.mono {W D W' D' : Nat} {d : PyData} (h : Bd W D d) (a : W ≤ W') (b : D ≤ D') : Bd W' D' d := ⟨h.l, Nat.le_trans h.w a, Nat.le_trans h.p b⟩
theorem BdA.mono {W D W' D' : Nat} {ds : List PyData} (h : BdA W D ds) (a : W ≤ W') (b : D ≤ D') : BdA W' D' ds := ⟨h.l, Nat.le_trans h.w a, Nat.le_trans h.p b⟩
theorem BdA.nil {D : Nat} : BdA 0 D [] := ⟨by simp only [lfA], by simp only [PyData.weightAll]; exact Nat.le_refl _, by simp only [PyData.depthAll]; exact Nat.zero_le _⟩
theorem BdA.cons {W V D : Nat} {d : PyData} {ds : List PyData} (a : Bd W D d) (b : BdA V D ds) : BdA (W + 1 + V) D (d :: ds) := ⟨by simp only [lfA, a.l, b.l, Bool.and_self], by
  have := a.w
  have := b.w
  simp only [PyData.weightAll]
  omega, by
  have := a.p
  have := b.p
  simp only [PyData.depthAll]
  omega⟩
theorem BdA.app {W V D : Nat} : ∀ {ds es : List PyData}, BdA W D ds → BdA V D es → BdA (W + V) D (ds ++ es)
  | [], es, _, h => h.mono (Nat.le_add_left _ _) (Nat.le_refl _)
  | d :: ds, es, h, g => by
    obtain ⟨h1, h2, h3⟩ := h
    simp only [lfA, Bool.and_eq_true] at h1
    simp only [PyData.weightAll] at h2
    simp only [PyData.depthAll] at h3
    have hd : Bd d.weight D d := ⟨h1.1, Nat.le_refl _, by omega⟩
    have ht : BdA (PyData.weightAll ds) D ds := ⟨h1.2, Nat.le_refl _, by omega⟩
    exact (BdA.cons hd (ht.app g)).mono (by omega) (Nat.le_refl _)
theorem BdA.take {W D : Nat} : ∀ {ds : List PyData} (n : Nat), BdA W D ds → BdA W D (ds.take n)
  | ds, 0, h => by rw [List.take_zero]; exact BdA.nil.mono (Nat.zero_le _) (Nat.le_refl _)
  | [], _ + 1, h => h
  | d :: ds, n + 1, h => by
    obtain ⟨h1, h2, h3⟩ := h
    simp only [lfA, Bool.and_eq_true] at h1
    simp only [PyData.weightAll] at h2
    simp only [PyData.depthAll] at h3
    have hd : Bd d.weight D d := ⟨h1.1, Nat.le_refl _, by omega⟩
    have ht : BdA (PyData.weightAll ds) D ds := ⟨h1.2, Nat.le_refl _, by omega⟩
    exact (BdA.cons hd (ht.take n)).mono (by omega) (Nat.le_refl _)
theorem BdA.drop {W D : Nat} : ∀ {ds : List PyData} (n : Nat), BdA W D ds → BdA W D (ds.drop n)
  | ds, 0, h => h
  | [], _ + 1, h => h
  | d :: ds, n + 1, h => by
    obtain ⟨h1, h2, h3⟩ := h
    simp only [lfA, Bool.and_eq_true] at h1
    simp only [PyData.weightAll] at h2
    simp only [PyData.depthAll] at h3
    have ht : BdA W D ds := ⟨h1.2, by omega, by omega⟩
    exact ht.drop n
theorem BdA.tup {W D : Nat} {ds : List PyData} (h : BdA W D ds) : Bd W (D + 1) (.tuple ds) := ⟨by simp only [lf]; exact h.l, by simp only [PyData.weight]; exact h.w, by simp only [PyData.depth]; exact Nat.succ_le_succ h.p⟩
theorem BdA.lst {W D : Nat} {ds : List PyData} (h : BdA W D ds) : Bd W (D + 1) (.list ds) := ⟨by simp only [lf]; exact h.l, by simp only [PyData.weight]; exact h.w, by simp only [PyData.depth]; exact Nat.succ_le_succ h.p⟩
theorem Bd.items {W D : Nat} {ds : List PyData} (h : Bd W (D + 1) (.tuple ds)) : BdA W D ds := by
  obtain ⟨h1, h2, h3⟩ := h
  simp only [lf] at h1
  simp only [PyData.weight] at h2
  simp only [PyData.depth] at h3
  exact ⟨h1, h2, by omega⟩
theorem Bd.int {i : Int} {D : Nat} (h0 : -1 ≤ i) (h1 : i ≤ 2000) : Bd 11 D (.int i) := ⟨by simp only [lf, Bool.and_eq_true, decide_eq_true_eq]; exact ⟨h0, h1⟩, by
  have := int_log h0 h1
  simp only [PyData.weight]
  split <;> omega, by simp only [PyData.depth]; exact Nat.zero_le _⟩
theorem Bd.str {x : Str} {D : Nat} (h : x ∈ strL) : Bd 6 D (.str x) := ⟨by simp only [lf]; exact decide_eq_true h, by simp only [PyData.weight]; exact (str_props h).2.1, by simp only [PyData.depth]; exact Nat.zero_le _⟩
theorem Bd.shw {d : PyData} (h : Bd 1000 10 d) : Shw d := ⟨(lf_props d h.l).1, h.p, PyData.shown_fits (by decide) (by decide) (lf_props d h.l).2 (Nat.le_trans h.w (by decide))⟩
theorem name_str {x : Str} (h : x ∈ nameL) : x ∈ strL := List.mem_append.mpr (.inl h)
theorem BdA.rep {W D : Nat} : ∀ {ds : List PyData}, (∀ d ∈ ds, Bd W D d) → BdA ((W + 1) * ds.length) D ds
  | [], _ => BdA.nil
  | d :: ds, h => by
    have := BdA.rep fun e he => h e (List.mem_cons_of_mem _ he)
    refine (BdA.cons (h d List.mem_cons_self) this).mono ?_ (Nat.le_refl _)
    rw [List.length_cons, Nat.mul_add]
    omega
end Pl

namespace Pl
open L2 PySem PySem.Spec PyProof.Rows
def spPairs : Sp := fun vs H Q _ => ∃ (z l : Addr) (ss : List Str), vs = [.ref z, .ref l] ∧ Src z H ∧ l ≠ z ∧ H l = some (.lst (ss.map V.str)) ∧ NmsU ss ∧
  ∀ (v : V) (d : PyData) (G : Hp), But z H G → Src z G → (∀ m, Dv m z G true v d) → Bd 130 2 d → arePairs d = true → Q v G
theorem DvL.snoc {m : Bool} {z : Addr} {H : Hp} {k : Bool} {vs : List V} {ds : List PyData} {v : V} {d : PyData} (h : DvL m z H k vs ds) (a : Dv m z H k v d) : DvL m z H k (vs ++ [v]) (ds ++ [d]) := h.app (.cons a .nil)
def hoIt : HO → Option (List V)
  | .frz _ (.tup xs) => some xs
  | .tup xs => some xs
  | _ => none
theorem TupAt.it {H : Hp} {k : Bool} {a : Addr} {xs : List V} (h : TupAt H k a xs) : ∃ o, H a = some o ∧ hoIt o = some xs := by
  cases h with
  | frz h d => exact ⟨_, h, rfl⟩
  | big h l => exact ⟨_, h, rfl⟩
  | any h => exact ⟨_, h, rfl⟩
theorem TupAt.uniq {H : Hp} {k : Bool} {a : Addr} {xs ys : List V} (h : TupAt H k a xs) (g : TupAt H k a ys) : xs = ys := by
  obtain ⟨o, h1, h2⟩ := h.it
  obtain ⟨p, g1, g2⟩ := g.it
  rw [h1] at g1
  cases g1
  exact Option.some.inj (h2.symm.trans g2)
theorem TupAt.off {H : Hp} {k : Bool} {a D : Addr} {xs ys : List V} {o : HO} (h : TupAt H k a xs) (hD : H D = some (.lst ys)) : TupAt (upd H D o) k a xs := by
  have ne : a ≠ D := fun e => by
    obtain ⟨p, h1, h2⟩ := h.it
    rw [e, hD] at h1
    cases h1
    cases h2
  cases h with
  | frz h d => exact .frz ((upd_ne ne).trans h) d
  | big h l => exact .big ((upd_ne ne).trans h) l
  | any h => exact .any ((upd_ne ne).trans h)
section
variable {z D : Addr} {H : Hp} {o : HO} {ys : List V}
mutual
theorem Dv.off (hD : H D = some (.lst ys)) : ∀ (k : Bool) (d : PyData) (v : V), Dv true z H k v d → Dv false z H k v d → Dv true z (upd H D o) k v d ∧ Dv false z (upd H D o) k v d
  | _, .none, _, h, _ => by cases h; exact ⟨.non, .non⟩
  | _, .bool _, _, h, _ => by cases h; exact ⟨.bl _, .bl _⟩
  | _, .int _, _, h, _ => by cases h; exact ⟨.int _, .int _⟩
  | _, .str _, _, h, _ => by cases h; exact ⟨.str _, .str _⟩
  | _, .list ds, _, h, _ => by
    cases h with
    | lst hm ne h t => cases hm
  | _, .dict _, _, _, h => by
    cases h with
    | dct hm ne h => cases hm
  | _, .tuple ds, _, h1, h2 => by
    cases h1 with
    | tup ne h t =>
      cases h2 with
      | tup ne' h' t' =>
        obtain rfl := h.uniq h'
        obtain ⟨a, b⟩ := DvL.off hD _ ds _ t t'
        exact ⟨.tup ne (h.off hD) a, .tup ne (h.off hD) b⟩
theorem DvL.off (hD : H D = some (.lst ys)) : ∀ (k : Bool) (ds : List PyData) (vs : List V), DvL true z H k vs ds → DvL false z H k vs ds → DvL true z (upd H D o) k vs ds ∧ DvL false z (upd H D o) k vs ds
  | _, [], _, h, _ => by cases h; exact ⟨.nil, .nil⟩
  | _, d :: ds, _, h1, h2 => by
    cases h1 with
    | cons a t =>
      cases h2 with
      | cons a' t' =>
        obtain ⟨p, q⟩ := Dv.off hD _ d _ a a'
        obtain ⟨r, s⟩ := DvL.off hD _ ds _ t t'
        exact ⟨.cons p r, .cons q s⟩
end
theorem DvL.off' {k : Bool} {ds : List PyData} {vs : List V} (h : ∀ m, DvL m z H k vs ds) (hD : H D = some (.lst ys)) (m : Bool) : DvL m z (upd H D o) k vs ds := by
  obtain ⟨a, b⟩ := DvL.off (o := o) hD k ds vs (h true) (h false)
  cases m
  · exact b
  · exact a
end
theorem yesT {σ : L2.St} {H : Hp} {A B : Hp → Prop} (h : A H) : tYes σ H fun b H1 => if b = true then A H1 else B H1 := by
  show (if true = true then A H else B H)
  rw [if_pos rfl]
  exact h
theorem cut_take (ts : List V) {r : Int} (h : 0 ≤ r) : cutV ts none (some r) = ts.take r.toNat := by
  unfold cutV
  have e1 : HT.sIx ts.length 0 none = 0 := rfl
  have e2 : HT.sIx ts.length ts.length (some r) = min r.toNat ts.length := by
    simp [HT.sIx]
    omega
  rw [e1, e2, List.drop_zero, Nat.sub_zero, ← List.take_eq_take_min]
theorem nameL_ok : (nameL.all fun x => isName (.str x)) = true := by decide +kernel
theorem isName_of {x : Str} (h : x ∈ nameL) : isName (.str x) = true := List.all_eq_true.mp nameL_ok x h
theorem isPair_of {x : Str} {n : Int} (h : x ∈ nameL) (n0 : 0 ≤ n) (n1 : n ≤ 99) : isPair (.tuple [.str x, .int n]) = true := by
  show (isName (.str x) && (decide (0 ≤ n) && decide (n ≤ 99))) = true
  rw [isName_of h, decide_eq_true n0, decide_eq_true n1]
  rfl
theorem arePairs_of {ds : List PyData} (l : ds.length ≤ 4) (h : ∀ d ∈ ds, isPair d = true) (nd : (ds.map nmOf).Nodup) : arePairs (.tuple ds) = true := by
  show (decide (ds.length ≤ 4) && ds.all isPair && decide ((dst (sK (ds.map nmOf))).length = ds.length)) = true
  have e : (dst (sK (ds.map nmOf))).length = (sK (ds.map nmOf)).length := (dst_nodup _).mpr (by
    unfold sK
    exact List.Pairwise.map _ (fun a b (n : a ≠ b) e => n (Sum.inr.inj e)) nd)
  have e2 : (sK (ds.map nmOf)).length = ds.length := by
    unfold sK
    rw [List.length_map, List.length_map]
  rw [decide_eq_true l, List.all_eq_true.mpr h, decide_eq_true (e.trans e2)]
  rfl
def strQ (s : Str) : V × PyData := (.str s, .str s)
theorem strs_fst (ss : List Str) : (ss.map strQ).map (·.1) = ss.map V.str := by
  rw [List.map_map]
  rfl
theorem name_ok {s : Str} (h : s ∈ nameL) : PyData.strOk s = true := (str_props (name_str h)).1
theorem Bd.pair {x : Str} {n : Int} (hx : x ∈ nameL) (h0 : 0 ≤ n) (h1 : n ≤ 99) : Bd 19 1 (.tuple [.str x, .int n]) :=
  (BdA.cons (D := 0) (Bd.str (name_str hx)) (BdA.cons (Bd.int (by omega) (by omega)) BdA.nil)).tup.mono (by decide) (by decide)
section
variable {P : Program} {K : PySem.W.Frag} {w : World} {base : Heap} {mg : Str → Option Value}
theorem scPairs : FnScope ["_law_source", "_law_names", "_law_some", "_law_name"] ["_law_source", "_law_names"] (defScope sPairs) := ⟨rfl, rfl, rfl, by decide +kernel, rfl, by decide +kernel, by decide +kernel⟩
theorem ok_pairs {f : Addr} {fd : FuncData} (F : Fun K "_law_pairs" "_law_pairs" sPairs f fd) (T : Cst K mg) (D : DTake P w K mg base) (DT : Df P w K mg base 2 "_law_turned" ["_law_source", "_law_things"] spTurned) (DN : Df P w K mg base 3 "_law_number" ["_law_source"] spNumber) :
    FnOk P w K mg base CX0 4 f fd ["_law_source", "_law_names"] spPairs := by
  obtain ⟨g1, fd1, G1, m1, k1, b1⟩ := D.ex
  obtain ⟨g2, fd2, G2, m2, k2, b2⟩ := DT.ex
  obtain ⟨g3, fd3, G3, m3, k3, b3⟩ := DN.ex
  refine F.ok scPairs (fun vs H Q E h => ?_) (fun cdv A outer s H vs Q E hr h => ?_)
  · obtain ⟨z, l, ss, rfl, _⟩ := h
    rfl
  · obtain ⟨z, l, ss, rfl, hz, ne, hl, ⟨⟨hn1, hn2, hn3⟩, hnd, hq, hn4⟩, q⟩ := h
    refine ⟨_, pss_cons (ps_set (i := 2) scPairs.nd rfl (Or.inl rfl) (pe_slice sl_list (pe_call G2 (hr.mono (by decide)) (by rfl) m2 k2 b2 .nil pass0 (pa_cons (pv 0) (pa_cons (pe_op op_cat (pv 1) (pe_lst (pa_cons pe_str pa_nil))) pa_nil))) po_none
        (po_some (pe_call G1 (hr.mono (by decide)) (by rfl) m1 k1 b1 .nil pass0 (pa_cons (pv 0) (pa_cons pe_int pa_nil))))))
      (pss_one (ps_ret (pe_callTy call_tupF (by rfl) T.ttup (by decide +kernel) (pa_cons (pe_lc (own := [("_law_name", 3)]) (g := gName 3) (tt := tYes) rfl scPairs.nd (pi_list (pv 2)) (blkOk_by (own := [("_law_name", 3)]) (N := ["_law_source", "_law_names", "_law_some", "_law_name"]) (sc := defScope sPairs) (by decide +kernel))
          (fun _ _ _ _ _ => pg_name (i := 3) scPairs.nd rfl (Or.inl rfl)) (fun _ _ _ _ _ => pts_nil)
          (fun _ _ _ _ _ => pe_tupF (pa_cons (pv 3) (pa_cons (pe_call G3 hr (by rfl) m3 k3 b3 .nil pass0 (pa_cons (pv 0) pa_nil)) pa_nil)))) pa_nil)))), ?_⟩
    obtain ⟨oz, hzo⟩ := hz.some
    refine ⟨_, rfl, _, rfl, by show 1 ≤ sizeLine; decide, fun p1 e1 => ?_⟩
    have b1 := But.new (z := z) (o := HO.lst [V.str "q"]) e1
    have s1 := hz.new (o := HO.lst [V.str "q"]) e1
    have z1 : upd H p1 (.lst [V.str "q"]) z = some oz := (upd_ne (ne_of_none hzo e1)).trans hzo
    have hl1 := b1 _ _ ne NoT.lst hl
    refine ⟨l, p1, _, _, rfl, rfl, hl1, upd_same, by rw [List.length_map]; show ss.length + 1 ≤ sizeLine; exact Nat.le_of_lt (small1000 (by omega)), fun p2 e2 => ?_⟩
    have n2 : p2 ≠ z := (ne_of_none z1 e2).symm
    refine ⟨z, p2, (ss ++ ([("q" : Str)] : List Str)).map strQ, rfl, s1.new e2, n2, by rw [upd_same, strs_fst, List.map_append]; rfl, by rw [List.length_map, List.length_append]; show ss.length + 1 ≤ 1000; omega, fun s h => ?_, fun q3 M G bG sG n3 _ h3 pm => ?_⟩
    · obtain ⟨x, hx, rfl⟩ := List.mem_map.mp h
      refine ⟨.str x, ?_, by show PyData.depth (.str x) ≤ 10; simp only [PyData.depth]; omega⟩
      show PyData.canLay0 (.str x) = true
      have ok : PyData.strOk x = true := by
        rcases List.mem_append.mp hx with h | h; skip
        · exact name_ok (hn3 x h)
        · rw [List.mem_singleton.mp h]
          exact name_ok (by decide +kernel)
      simp only [PyData.canLay0]
      exact ok
    obtain ⟨ts, rfl⟩ : ∃ ts : List Str, M = ts.map strQ := by
      refine ⟨M.map fun q => txt q.2, ?_⟩
      rw [List.map_map]
      refine (List.map_id' M).symm.trans (List.map_congr_left fun q hq => ?_)
      obtain ⟨x, _, rfl⟩ := List.mem_map.mp (pm.mem_iff.mp hq)
      rfl
    rw [strs_fst] at h3
    have pms : ts.Perm (ss ++ ([("q" : Str)] : List Str)) := by
      have := pm.map fun q => txt q.2
      rw [List.map_map, List.map_map] at this
      have e : ∀ l : List Str, l.map ((fun q : V × PyData => txt q.2) ∘ strQ) = l := fun l => List.map_id' l
      rwa [e, e] at this
    have tnd : ts.Nodup := pms.nodup_iff.mpr (List.nodup_append.mpr ⟨hnd, by simp, fun a ha b hb e => by
      rw [List.mem_singleton] at hb
      subst hb
      subst e
      exact hq ha⟩)
    have hts : ∀ t ∈ ts, t ∈ ss ++ ([("q" : Str)] : List Str) := fun t h => pms.mem_iff.mp h
    have hlen := Nat.le_of_eq pms.length_eq
    have b3 : But z H G := (b1.trans (But.new e2)).trans bG
    have hts2 : ∀ t ∈ ts, t ∈ nameL := fun t h => by
      rcases List.mem_append.mp (hts t h) with h | h
      · exact hn3 t h
      · rw [List.mem_singleton.mp h]
        decide +kernel
    have hlen2 : ts.length ≤ 6 := by
      rw [List.length_append] at hlen
      have : ([("q" : Str)] : List Str).length = 1 := rfl
      omega
    refine ⟨_, rfl, z, 5, rfl, sG, by decide, by decide, fun r G2 r0 r1 bG2 sG2 => ?_⟩
    have h4 := bG2 _ _ n3 NoT.lst h3
    refine ⟨r, rfl, q3, _, rfl, SqL.of h4, fun p4 e4 => ?_⟩
    rw [cut_take _ r0, ← List.map_take]
    have hus : ∀ u ∈ ts.take r.toNat, u ∈ ts := fun u h => List.mem_of_mem_take h
    have hund : (ts.take r.toNat).Nodup := List.Sublist.nodup (List.take_sublist _ _) tnd
    have hu4 : (ts.take r.toNat).length ≤ 4 := by
      rw [List.length_take]; skip
      omega
    have hul : (ts.take r.toNat).length ≤ ts.length := by
      rw [List.length_take]; skip
      omega
    generalize ts.take r.toNat = us at hus hund hu4 hul ⊢
    obtain ⟨oz2, hzo2⟩ := sG2.some
    have n4 : p4 ≠ z := (ne_of_none hzo2 e4).symm
    have b4 : But z H (upd G2 p4 (.lst (us.map V.str))) := (b3.trans bG2).trans (But.new e4)
    have s4 := sG2.new (o := .lst (us.map V.str)) e4
    have k4 : upd G2 p4 (.lst (us.map V.str)) p4 = some (.lst (us.map V.str)) := upd_same
    generalize upd G2 p4 (.lst (us.map V.str)) = G4 at b4 s4 k4 ⊢
    refine ⟨_, rfl, p4, rfl, ⟨_, SqL.of k4⟩, fun D hD => ?_⟩
    obtain ⟨oz4, hzo4⟩ := s4.some
    have nD : D ≠ z := (ne_of_none hzo4 hD).symm
    refine lc_list (K := K) (a := p4) (xs := us.map V.str) (fun i G => But z G4 G ∧ Src z G ∧ ∃ vs ds, G D = some (.lst vs) ∧ vs.length = i ∧ (∀ m, DvL m z G true vs ds) ∧ (∀ d ∈ ds, Bd 19 1 d ∧ isPair d = true) ∧ ds.map nmOf = us.take i)
      ⟨But.new hD, s4.new hD, [], [], upd_same, rfl, (fun m => .nil), (fun d h => by cases h), rfl⟩ (fun i G _ h => SqL.of (h.1 _ _ n4 NoT.lst k4)) ?_ ?_
    · rintro i y G hy ⟨c1, c2, vs, ds, c3, c4, c5, c6, c7⟩
      have hlu : i < us.length := by
        have := (List.getElem?_eq_some_iff.mp hy).1
        rw [List.length_map] at this
        exact this
      obtain ⟨u, hu, rfl⟩ : ∃ u, us[i]? = some u ∧ y = .str u := by
        rw [List.getElem?_map] at hy
        cases e : us[i]? with
        | none =>
          rw [e] at hy
          cases hy
        | some u =>
          rw [e] at hy
          exact ⟨u, rfl, (Option.some.inj hy).symm⟩
      refine ⟨rfl, yesT ?_⟩
      refine ⟨_, rfl, _, rfl, z, rfl, c2, fun n G5 n0 n1 b5 s5 => ⟨by show 2 ≤ sizeLine; decide, fun p o e5 ho => ?_⟩⟩
      have b6 := b5.trans (But.new (o := HO.frz o (.tup [.str u, .int n])) e5)
      obtain ⟨oz5, hzo5⟩ := s5.some
      have n5 : p ≠ z := (ne_of_none hzo5 e5).symm
      refine ⟨vs, b6 _ _ nD NoT.lst c3, small1000 (by omega), ?_, (s5.new e5).set nD, vs ++ [.ref p], ds ++ [.tuple [.str u, .int n]], upd_same, by rw [List.length_append, c4]; rfl, fun m => ?_, fun d h => ?_, by rw [List.map_append, c7, take_snoc hu]; rfl⟩
      · intro b ob hb ho' e
        have nb : b ≠ D := ne_of_none e hD
        rw [upd_ne nb]
        exact b6 _ _ hb ho' (c1 _ _ hb ho' e)
      · refine DvL.off' (fun m => (DvL.to b6 _ _ _ (c5 m)).snoc ?_) (b6 _ _ nD NoT.lst c3) m
        exact .tup n5 (.frz upd_same ho) (.cons (.str _) (.cons (.int _) .nil))
      · rcases List.mem_append.mp h with h | h; skip
        · exact c6 d h
        · rw [List.mem_singleton.mp h]
          exact ⟨Bd.pair (hts2 _ (hus _ (List.mem_of_getElem? hu))) n0 n1, isPair_of (hts2 _ (hus _ (List.mem_of_getElem? hu))) n0 n1⟩
    · rintro G ⟨c1, c2, vs, ds, c3, c4, c5, c6, c7⟩
      rw [List.length_map] at c4 c7
      rw [List.take_length] at c7
      refine ⟨D, vs, rfl, c3, fun p5 o e5 ho => ?_⟩
      obtain ⟨oz5, hzo5⟩ := c2.some
      have n5 : p5 ≠ z := (ne_of_none hzo5 e5).symm
      have b5 := But.new (z := z) (o := HO.frz o (.tup vs)) e5
      have hlds := (c5 true).len
      exact q (.ref p5) (.tuple ds) _ ((b4.trans c1).trans b5) (c2.new e5) (fun m => .tup n5 (.frz upd_same ho) (DvL.to b5 _ _ _ (c5 m))) ((BdA.rep fun d hd => (c6 d hd).1).tup.mono (by
        have : ds.length ≤ 6 := by omega
        omega) (by decide)) (arePairs_of (by omega) (fun d hd => (c6 d hd).2) (by rw [c7]; exact hund))
end
end Pl

namespace Pl
open L2 PySem PySem.Spec PyProof.Rows
/-- a drawn deed -/
def DD (mo : Int) (z : Addr) (G : Hp) (v : V) (d : PyData) : Prop := (∀ m, Dv m z G true v d) ∧ isDeed d = true ∧ ∃ ds, d = .tuple (.int mo :: ds) ∧ 2 ≤ ds.length ∧ ds.length ≤ 3 ∧ BdA 200 2 (.int mo :: ds)
theorem mom_ok {mo : Int} (h0 : 1 ≤ mo) (h1 : mo ≤ 999) : within (.int mo) 1 999 = true := by
  show (decide (1 ≤ mo) && decide (mo ≤ 999)) = true
  rw [decide_eq_true h0, decide_eq_true h1]
  rfl
theorem within_of {i lo hi : Int} (h0 : lo ≤ i) (h1 : i ≤ hi) : within (.int i) lo hi = true := by
  show (decide (lo ≤ i) && decide (i ≤ hi)) = true
  rw [decide_eq_true h0, decide_eq_true h1]
  rfl
theorem deed_of {mo : Int} {x : Str} {f : List PyData → Bool} {p : PyData} {r : List PyData} (h0 : 1 ≤ mo) (h1 : mo ≤ 999) (hf : formP x = some f) (h : f (p :: r) = true) : isDeed (.tuple (.int mo :: .str x :: p :: r)) = true := by
  show (within (.int mo) 1 999 && (match formP x with
    | some f => f (p :: r)
    | none => false)) = true
  rw [hf, mom_ok h0 h1, Bool.true_and]
  exact h
theorem form_strike : formP "strike" = some (f1 pKey) := by
  unfold formP
  rw [if_neg (by decide), if_pos rfl]; skip
theorem form_add : formP "add" = some (f2 isName pVal) := by
  unfold formP
  rw [if_neg (by decide), if_neg (by decide), if_pos rfl]
theorem form_drop : formP "drop" = some (f1 isName) := by
  unfold formP
  rw [if_neg (by decide), if_neg (by decide), if_neg (by decide), if_pos rfl]
theorem form_rename : formP "rename" = some (f2 isName isName) := by
  unfold formP
  rw [if_neg (by decide), if_neg (by decide), if_neg (by decide), if_neg (by decide), if_pos rfl]
def Kys (ks : List Int) : Prop := ks ≠ [] ∧ ks.length ≤ 5 ∧ ∀ k ∈ ks, 0 ≤ k ∧ k ≤ 9
def spDeed : Sp := fun vs H Q _ => ∃ (z ln lk : Addr) (mo : Int) (ss : List Str) (ks : List Int), vs = [.ref z, .int mo, .ref ln, .ref lk] ∧ Src z H ∧ 1 ≤ mo ∧ mo ≤ 999 ∧ ln ≠ z ∧ H ln = some (.lst (ss.map V.str)) ∧ NmsU ss ∧ lk ≠ z ∧ H lk = some (.lst (ks.map V.int)) ∧ Kys ks ∧
  ∀ (v : V) (d : PyData) (G : Hp), But z H G → Src z G → DD mo z G v d → Q v G
theorem mk_tup {z p : Addr} {G : Hp} {o : Obj} {vs : List V} {ds : List PyData} (e : G p = none) (ho : o.dict = none) (s : Src z G) (h : ∀ m, DvL m z G true vs ds) :
    But z G (upd G p (.frz o (.tup vs))) ∧ Src z (upd G p (.frz o (.tup vs))) ∧ ∀ m, Dv m z (upd G p (.frz o (.tup vs))) true (.ref p) (.tuple ds) := by
  obtain ⟨oz, hz⟩ := s.some
  have b := But.new (z := z) (o := HO.frz o (.tup vs)) e
  exact ⟨b, s.new e, fun m => .tup (ne_of_none hz e).symm (.frz upd_same ho) (DvL.to b _ _ _ (h m))⟩
theorem mem_map {α : Type} {f : α → V} {xs : List α} {i : Nat} {v : V} (h : (xs.map f)[i]? = some v) : ∃ x ∈ xs, v = f x := by
  have := List.mem_of_getElem? h
  obtain ⟨x, hx, e⟩ := List.mem_map.mp this
  exact ⟨x, hx, e.symm⟩
section
variable {P : Program} {K : PySem.W.Frag} {w : World} {base : Heap} {mg : Str → Option Value}
theorem scDeed : FnScope ["_law_source", "_law_moment", "_law_names", "_law_keys", "_law_word"] ["_law_source", "_law_moment", "_law_names", "_law_keys"] (defScope sDeed) := ⟨rfl, rfl, rfl, by decide +kernel, rfl, by decide +kernel, by decide +kernel⟩
theorem ok_drawdeed {f : Addr} {fd : FuncData} (F : Fun K "_law_deed" "_law_deed" sDeed f fd) (D : DOne P w K mg base) (DN : Df P w K mg base 3 "_law_number" ["_law_source"] spNumber) (DP : Df P w K mg base 4 "_law_pairs" ["_law_source", "_law_names"] spPairs) :
    FnOk P w K mg base CX0 5 f fd ["_law_source", "_law_moment", "_law_names", "_law_keys"] spDeed := by
  obtain ⟨g1, fd1, G1, m1, k1, b1⟩ := D.ex
  obtain ⟨g2, fd2, G2, m2, k2, b2⟩ := DN.ex
  obtain ⟨g3, fd3, G3, m3, k3, b3⟩ := DP.ex
  refine F.ok scDeed (fun vs H Q E h => ?_) (fun cdv A outer s H vs Q E hr h => ?_)
  · obtain ⟨z, ln, lk, mo, ss, ks, rfl, _⟩ := h
    rfl
  · obtain ⟨z, ln, lk, mo, ss, ks, rfl, hz, mo0, mo1, nn, hn, ⟨⟨hn1, hn2, hn3⟩, hU⟩, nk, hk, ⟨hk1, hk2, hk3⟩, q⟩ := h
    refine ⟨_, pss_cons (ps_set (i := 4) scDeed.nd rfl (Or.inl rfl) (pe_call G1 (hr.mono (by decide)) (by rfl) m1 k1 b1 .nil pass0 (pa_cons (pv 0) (pa_cons (pe_lst (pa_cons pe_str (pa_cons pe_str (pa_cons pe_str (pa_cons pe_str (pa_cons pe_str (pa_cons pe_str (pa_cons pe_str (pa_cons pe_str pa_nil))))))))) pa_nil))))
      (pss_cons (ps_if (pt_cmpR op_eq (pv 4) pe_str (nomark _)) (pss_one (ps_ret (pe_tupF (pa_cons (pv 1) (pa_cons (pv 4) (pa_cons (pe_call G1 (hr.mono (by decide)) (by rfl) m1 k1 b1 .nil pass0 (pa_cons (pv 0) (pa_cons (pv 3) pa_nil)))
          (pa_cons (pe_call G3 hr (by rfl) m3 k3 b3 .nil pass0 (pa_cons (pv 0) (pa_cons (pv 2) pa_nil))) pa_nil))))))) pss_nil)
      (pss_cons (ps_if (pt_cmpR op_eq (pv 4) pe_str (nomark _)) (pss_one (ps_ret (pe_tupF (pa_cons (pv 1) (pa_cons (pv 4) (pa_cons (pe_call G1 (hr.mono (by decide)) (by rfl) m1 k1 b1 .nil pass0 (pa_cons (pv 0) (pa_cons (pv 3) pa_nil))) pa_nil)))))) pss_nil)
      (pss_cons (ps_if (pt_cmpR op_eq (pv 4) pe_str (nomark _)) (pss_one (ps_ret (pe_tupF (pa_cons (pv 1) (pa_cons (pv 4) (pa_cons (pe_call G1 (hr.mono (by decide)) (by rfl) m1 k1 b1 .nil pass0 (pa_cons (pv 0) (pa_cons (pv 2) pa_nil)))
          (pa_cons (pe_call G2 (hr.mono (by decide)) (by rfl) m2 k2 b2 .nil pass0 (pa_cons (pv 0) pa_nil)) pa_nil))))))) pss_nil)
      (pss_cons (ps_if (pt_cmpR op_eq (pv 4) pe_str (nomark _)) (pss_one (ps_ret (pe_tupF (pa_cons (pv 1) (pa_cons (pv 4) (pa_cons (pe_call G1 (hr.mono (by decide)) (by rfl) m1 k1 b1 .nil pass0 (pa_cons (pv 0) (pa_cons (pv 2) pa_nil))) pa_nil)))))) pss_nil)
      (pss_one (ps_ret (pe_tupF (pa_cons (pv 1) (pa_cons (pv 4) (pa_cons (pe_call G1 (hr.mono (by decide)) (by rfl) m1 k1 b1 .nil pass0 (pa_cons (pv 0) (pa_cons (pv 2) pa_nil)))
          (pa_cons (pe_call G1 (hr.mono (by decide)) (by rfl) m1 k1 b1 .nil pass0 (pa_cons (pv 0) (pa_cons (pv 2) pa_nil))) pa_nil))))))))))), ?_⟩
    obtain ⟨oz, hzo⟩ := hz.some
    refine ⟨_, rfl, by show 8 ≤ sizeLine; decide, fun p1 e1 => ?_⟩
    refine ⟨z, p1, _, rfl, hz.new e1, (ne_of_none hzo e1).symm, upd_same, by simp, by show 8 ≤ 1000; decide, fun i v G hi bG sG => ?_⟩
    obtain ⟨wd, hwd, rfl⟩ : ∃ wd : Str, wd ∈ (["put", "strike", "add", "drop", "rename"] : List Str) ∧ v = .str wd := by
      have hm := List.mem_of_getElem? hi; skip
      simp only [List.mem_cons, List.not_mem_nil, or_false] at hm; skip
      rcases hm with rfl | rfl | rfl | rfl | rfl | rfl | rfl | rfl <;> exact ⟨_, by simp, rfl⟩
    have b0 : But z H G := (But.new e1).trans bG
    have hnG := b0 _ _ nn NoT.lst hn
    have hkG := b0 _ _ nk NoT.lst hk
    have fin : ∀ (G' : Hp) (p : Addr) (o : Obj) (vs : List V) (ds : List PyData), But z G G' → Src z G' → G' p = none → o.dict = none → (∀ m, DvL m z G' true vs (.int mo :: ds)) → 2 ≤ ds.length → ds.length ≤ 3 → BdA 200 2 (.int mo :: ds) → isDeed (.tuple (.int mo :: ds)) = true → Q (.ref p) (upd G' p (.frz o (.tup vs))) := fun G' p o vs ds b s e ho hv l3 l4 hb hid => by
      obtain ⟨c1, c2, c3⟩ := mk_tup e ho s hv
      exact q _ _ _ ((b0.trans b).trans c1) c2 ⟨c3, hid, ds, rfl, l3, l4, hb⟩
    have bm : Bd 11 2 (.int mo) := Bd.int (by omega) (by omega)
    have bw : Bd 6 2 (.str wd) := Bd.str (by
      have : ∀ x ∈ (["put", "strike", "add", "drop", "rename"] : List Str), x ∈ strL := by decide +kernel
      exact this wd hwd)
    have nm : ∀ {G' : Hp} {i : Nat} {v : V}, (ss.map V.str)[i]? = some v → ∃ x, x ∈ nameL ∧ v = .str x := fun h => by
      obtain ⟨x, hx, e⟩ := mem_map h
      exact ⟨x, hn3 x hx, e⟩
    have ky : ∀ {i : Nat} {v : V}, (ks.map V.int)[i]? = some v → ∃ x, 0 ≤ x ∧ x ≤ 9 ∧ v = .int x := fun h => by
      obtain ⟨x, hx, e⟩ := mem_map h
      exact ⟨x, (hk3 x hx).1, (hk3 x hx).2, e⟩
    have ssne : ss.map V.str ≠ [] := by simpa using hn1
    have ksne : ks.map V.int ≠ [] := by simpa using hk1
    have ssl : (ss.map V.str).length ≤ 1000 := by rw [List.length_map]; omega
    have ksl : (ks.map V.int).length ≤ 1000 := by rw [List.length_map]; omega
    refine ⟨_, rfl, rfl, _, rfl, ?_⟩; skip
    rw [strV_eq]
    refine ite2 (fun ew => ?_) fun e1_ => ?_
    · refine ⟨_, rfl, _, rfl, _, rfl, _, rfl, z, lk, _, rfl, sG, nk, hkG, ksne, ksl, fun i v G2 hi b2 s2 => ?_⟩
      obtain ⟨x, x0, x1, rfl⟩ := ky hi
      refine ⟨_, rfl, _, rfl, z, ln, ss, rfl, s2, nn, b2 _ _ nn NoT.lst hnG, ⟨⟨hn1, hn2, hn3⟩, hU⟩, fun v d G3 b3 s3 hv hb hap => ⟨by show 4 ≤ sizeLine; decide, fun p o e ho => ?_⟩⟩
      exact fin G3 p o _ [.str wd, .int x, d] (b2.trans b3) s3 e ho (fun m => .cons (.int _) (.cons (.str _) (.cons (.int _) (.cons (hv m) .nil)))) (by simp) (by simp)
        ((BdA.cons bm (BdA.cons bw (BdA.cons (Bd.int (by omega) (by omega)) (BdA.cons hb BdA.nil)))).mono (by decide) (by decide)) (by
          obtain rfl : wd = "put" := of_decide_eq_true ew
          exact deed_of mo0 mo1 form_put (by
            show (within (.int x) 0 9 && arePairs d) = true
            rw [within_of x0 x1, hap]
            rfl))
    refine ⟨_, rfl, rfl, _, rfl, ?_⟩; skip
    rw [strV_eq]
    refine ite2 (fun ew => ?_) fun e2_ => ?_
    · refine ⟨_, rfl, _, rfl, _, rfl, _, rfl, z, lk, _, rfl, sG, nk, hkG, ksne, ksl, fun i v G2 hi b2 s2 => ?_⟩
      obtain ⟨x, x0, x1, rfl⟩ := ky hi
      refine ⟨by show 3 ≤ sizeLine; decide, fun p o e ho => ?_⟩
      exact fin G2 p o _ [.str wd, .int x] b2 s2 e ho (fun m => .cons (.int _) (.cons (.str _) (.cons (.int _) .nil))) (by simp) (by simp)
        ((BdA.cons bm (BdA.cons bw (BdA.cons (Bd.int (by omega) (by omega)) BdA.nil))).mono (by decide) (by decide)) (by
          obtain rfl : wd = "strike" := of_decide_eq_true ew
          exact deed_of mo0 mo1 form_strike (within_of x0 x1))
    refine ⟨_, rfl, rfl, _, rfl, ?_⟩; skip
    rw [strV_eq]
    refine ite2 (fun ew => ?_) fun e3_ => ?_
    · refine ⟨_, rfl, _, rfl, _, rfl, _, rfl, z, ln, _, rfl, sG, nn, hnG, ssne, ssl, fun i v G2 hi b2 s2 => ?_⟩
      obtain ⟨x, hx, rfl⟩ := nm (G' := G2) hi
      refine ⟨_, rfl, z, rfl, s2, fun n G3 n0 n1 b3 s3 => ⟨by show 4 ≤ sizeLine; decide, fun p o e ho => ?_⟩⟩
      exact fin G3 p o _ [.str wd, .str x, .int n] (b2.trans b3) s3 e ho (fun m => .cons (.int _) (.cons (.str _) (.cons (.str _) (.cons (.int _) .nil)))) (by simp) (by simp)
        ((BdA.cons bm (BdA.cons bw (BdA.cons (Bd.str (name_str hx)) (BdA.cons (Bd.int (by omega) (by omega)) BdA.nil)))).mono (by decide) (by decide)) (by
          obtain rfl : wd = "add" := of_decide_eq_true ew
          exact deed_of mo0 mo1 form_add (by
            show (isName (.str x) && within (.int n) 0 99) = true
            rw [isName_of hx, within_of n0 n1]
            rfl))
    refine ⟨_, rfl, rfl, _, rfl, ?_⟩; skip
    rw [strV_eq]
    refine ite2 (fun ew => ?_) fun e4_ => ?_
    · refine ⟨_, rfl, _, rfl, _, rfl, _, rfl, z, ln, _, rfl, sG, nn, hnG, ssne, ssl, fun i v G2 hi b2 s2 => ?_⟩
      obtain ⟨x, hx, rfl⟩ := nm (G' := G2) hi
      refine ⟨by show 3 ≤ sizeLine; decide, fun p o e ho => ?_⟩
      exact fin G2 p o _ [.str wd, .str x] b2 s2 e ho (fun m => .cons (.int _) (.cons (.str _) (.cons (.str _) .nil))) (by simp) (by simp)
        ((BdA.cons bm (BdA.cons bw (BdA.cons (Bd.str (name_str hx)) BdA.nil))).mono (by decide) (by decide)) (by
          obtain rfl : wd = "drop" := of_decide_eq_true ew
          exact deed_of mo0 mo1 form_drop (isName_of hx))
    refine ⟨_, rfl, _, rfl, _, rfl, _, rfl, z, ln, _, rfl, sG, nn, hnG, ssne, ssl, fun i v G2 hi b2 s2 => ?_⟩
    obtain ⟨x, hx, rfl⟩ := nm (G' := G2) hi
    refine ⟨_, rfl, _, rfl, z, ln, _, rfl, s2, nn, b2 _ _ nn NoT.lst hnG, ssne, ssl, fun i v G3 hi b3 s3 => ?_⟩
    obtain ⟨y, hy, rfl⟩ := nm (G' := G3) hi
    refine ⟨by show 4 ≤ sizeLine; decide, fun p o e ho => ?_⟩
    exact fin G3 p o _ [.str wd, .str x, .str y] (b2.trans b3) s3 e ho (fun m => .cons (.int _) (.cons (.str _) (.cons (.str _) (.cons (.str _) .nil)))) (by simp) (by simp)
      ((BdA.cons bm (BdA.cons bw (BdA.cons (Bd.str (name_str hx)) (BdA.cons (Bd.str (name_str hy)) BdA.nil)))).mono (by decide) (by decide)) (by
        obtain rfl : wd = "rename" := by
          simp only [List.mem_cons, List.not_mem_nil, or_false] at hwd
          rcases hwd with h | h | h | h | h
          · exact absurd (decide_eq_true h) e1_
          · exact absurd (decide_eq_true h) e2_
          · exact absurd (decide_eq_true h) e3_
          · exact absurd (decide_eq_true h) e4_
          · exact h
        exact deed_of mo0 mo1 form_rename (by
          show (isName (.str x) && isName (.str y)) = true
          rw [isName_of hx, isName_of hy]
          rfl))
end
end Pl

namespace Pl
open L2 PySem PySem.Spec PyProof.Rows
/-- a deed drawn: its moment, where it lies, what it is -/
abbrev RowD := Int × V × PyData
abbrev rv (r : RowD) : V := r.2.1
abbrev rd (r : RowD) : PyData := r.2.2
def RowOk (z : Addr) (G : Hp) (r : RowD) : Prop := DD r.1 z G r.2.1 r.2.2 ∧ 1 ≤ r.1 ∧ r.1 ≤ 940
def Ups_ (L : List RowD) : Prop := L.Pairwise fun a b => a.1 < b.1
def spDeeds : Sp := fun vs H Q _ => ∃ (z : Addr), vs = [.ref z, .int 8] ∧ Src z H ∧
  ∀ (p : Addr) (L : List RowD) (G : Hp), But z H G → Src z G → p ≠ z → G p = some (.lst (L.map rv)) → L.length ≤ 8 → (∀ r ∈ L, RowOk z G r) → Ups_ L → Q (.ref p) G
theorem DD.to {mo : Int} {z : Addr} {H G : Hp} {v : V} {d : PyData} (h : DD mo z H v d) (b : But z H G) : DD mo z G v d := ⟨fun m => Dv.to b _ _ _ (h.1 m), h.2⟩
theorem DD.off {mo : Int} {z D : Addr} {H : Hp} {v : V} {d : PyData} {ys : List V} {o : HO} (h : DD mo z H v d) (hD : H D = some (.lst ys)) : DD mo z (upd H D o) v d := by
  obtain ⟨a, b⟩ := Dv.off (o := o) hD true d v (h.1 true) (h.1 false)
  refine ⟨fun m => ?_, h.2⟩
  cases m
  · exact b
  · exact a
section
variable {P : Program} {K : PySem.W.Frag} {w : World} {base : Heap} {mg : Str → Option Value}
theorem dd_rest {D : Ends} {z ln lk pf : Addr} {mo : Int} {x : Option V} {G : Hp} (s : Src z G) (h : ∀ (m2 : Int) (G2 : Hp), mo + 1 ≤ m2 → m2 ≤ mo + 5 → But z G G2 → Src z G2 → D.nx [some (.ref z), some (.int 8), some (.ref ln), some (.ref lk), some (.ref pf), some (.int m2), x] G2) :
    tAsg (tOp (rI0 fun i j => V.int (i + j)) (tVar 5) (tCall spOne [] E0 (tCons (tVar 0) (tCons (tLst (tCons (tC (V.int 1)) (tCons (tC (V.int 1)) (tCons (tC (V.int 2)) (tCons (tC (V.int 5)) tNil))))) tNil)))) (gName 5) D [some (.ref z), some (.int 8), some (.ref ln), some (.ref lk), some (.ref pf), some (.int mo), x] G := by
  obtain ⟨oz, z0⟩ := s.some
  refine ⟨_, rfl, _, rfl, by show 4 ≤ sizeLine; decide, fun p e => ⟨z, p, _, rfl, s.new e, (ne_of_none z0 e).symm, upd_same, by simp, by show 4 ≤ 1000; decide, fun i v G2 hi b s2 => ?_⟩⟩
  have bb := (But.new (z := z) e).trans b
  have hm := List.mem_of_getElem? hi; skip
  simp only [List.mem_cons, List.not_mem_nil, or_false] at hm; skip
  rcases hm with rfl | rfl | rfl | rfl <;> exact ⟨_, _, rfl, rfl, h _ G2 (by omega) (by omega) bb s2⟩
theorem dd_deed {K : PySem.W.Frag} {D : Ends} {z ln lk pf : Addr} {mo : Int} {x : Option V} {us : List V} {ss : List Str} {ks : List Int} {G : Hp} (s : Src z G) (h0 : 1 ≤ mo) (h1 : mo ≤ 999) (nn : ln ≠ z) (hn : G ln = some (.lst (ss.map V.str))) (hN : NmsU ss) (nk : lk ≠ z) (hk : G lk = some (.lst (ks.map V.int))) (hK : Kys ks) (nf : pf ≠ z) (hf : G pf = some (.lst us)) (hl : us.length < 1000)
    (h : ∀ (u : V) (d : PyData) (G2 : Hp), But z G G2 → Src z G2 → DD mo z G2 u d → D.nx [some (.ref z), some (.int 8), some (.ref ln), some (.ref lk), some (.ref pf), some (.int mo), x] (upd G2 pf (.lst (us ++ [u])))) :
    tDrop (tBM K "list" rAppend (tVar 4) (tCons (tCall spDeed [] E0 (tCons (tVar 0) (tCons (tVar 5) (tCons (tVar 2) (tCons (tVar 3) tNil))))) tNil)) D [some (.ref z), some (.int 8), some (.ref ln), some (.ref lk), some (.ref pf), some (.int mo), x] G :=
  ⟨_, rfl, .inl ⟨rfl, _, SqL.of hf⟩, _, rfl, _, rfl, _, rfl, _, rfl, z, ln, lk, mo, ss, ks, rfl, s, h0, h1, nn, hn, hN, nk, hk, hK, fun v d G2 b s2 hd => ⟨pf, us, v, rfl, rfl, b _ _ nf NoT.lst hf, small1000 (by omega), h v d G2 b s2 hd⟩⟩
theorem scDeeds : FnScope ["_law_source", "_law_most", "_law_names", "_law_keys", "_law_found", "_law_moment", "_law_turn"] ["_law_source", "_law_most"] (defScope sDeeds) := ⟨rfl, rfl, rfl, by decide +kernel, rfl, by decide +kernel, by decide +kernel⟩
theorem ok_deeds {f : Addr} {fd : FuncData} (F : Fun K "_law_deeds" "_law_deeds" sDeeds f fd) (T2 : Cs2 mg) (DT : DTake P w K mg base) (D : DOne P w K mg base) (DN : Df P w K mg base 3 "_law_number" ["_law_source"] spNumber) (DC : Df P w K mg base 3 "_law_called" ["_law_source"] spCalled)
    (DD_ : Df P w K mg base 5 "_law_deed" ["_law_source", "_law_moment", "_law_names", "_law_keys"] spDeed) : FnOk P w K mg base CX0 6 f fd ["_law_source", "_law_most"] spDeeds := by
  obtain ⟨g0, fd0, G0, m0, k0, b0⟩ := DT.ex
  obtain ⟨g1, fd1, G1, m1, k1, b1⟩ := D.ex
  obtain ⟨g2, fd2, G2, m2, k2, b2⟩ := DN.ex
  obtain ⟨g3, fd3, G3, m3, k3, b3⟩ := DC.ex
  obtain ⟨g4, fd4, G4, m4, k4, b4⟩ := DD_.ex
  refine F.ok scDeeds (fun vs H Q E h => ?_) (fun cdv A outer s H vs Q E hr h => ?_)
  · obtain ⟨z, rfl, _⟩ := h
    rfl
  · obtain ⟨z, rfl, hz, q⟩ := h
    refine ⟨_, pss_cons (ps_par3 (i := 2) (j := 3) (l := 4) (by rfl) scDeeds.nd rfl rfl rfl (by decide) (by decide) (by decide) rfl rfl rfl (pa_cons (pe_call G3 (hr.mono (by decide)) (by rfl) m3 k3 b3 .nil pass0 (pa_cons (pv 0) pa_nil))
        (pa_cons (pe_call G1 (hr.mono (by decide)) (by rfl) m1 k1 b1 .nil pass0 (pa_cons (pv 0) (pa_cons (pe_lst (pa_cons (pe_lst (pa_cons pe_int pa_nil)) (pa_cons (pe_lst (pa_cons pe_int (pa_cons pe_int pa_nil))) (pa_cons (pe_lst (pa_cons pe_int (pa_cons pe_int (pa_cons pe_int pa_nil)))) pa_nil)))) pa_nil)))
        (pa_cons (pe_lst pa_nil) pa_nil))) (by rfl))
      (pss_cons (ps_set (i := 5) scDeeds.nd rfl (Or.inl rfl) (pe_call G1 (hr.mono (by decide)) (by rfl) m1 k1 b1 .nil pass0 (pa_cons (pv 0) (pa_cons (pe_lst (pa_cons pe_int (pa_cons pe_int (pa_cons pe_int (pa_cons pe_int pa_nil))))) pa_nil))))
      (pss_cons (ps_for PassesOwn.never rfl (pi_range1 rfl T2.rng (pa_cons (pe_call G0 (hr.mono (by decide)) (by rfl) m0 k0 b0 .nil pass0 (pa_cons (pv 0) (pa_cons (pe_op op_add (pv 1) pe_int) pa_nil))) pa_nil)) (pg_name (i := 6) scDeeds.nd rfl (Or.inl rfl))
        (pss_cons (ps_if (PW.pt (pw_and (pt_cmpR op_eq (pv 6) pe_int (nomark _)) (pw_and1 (pt_cmpR op_gt (pe_call G0 (hr.mono (by decide)) (by rfl) m0 k0 b0 .nil pass0 (pa_cons (pv 0) (pa_cons pe_int pa_nil))) pe_int (nomark _)))))
            (pss_one (ps_expr (pe_bm PySem.F.plainAttrs_list PySem.F.slot_list_append PySem.F.type_list_append mt_append (pv 4) (pa_cons
              (pe_tupF (pa_cons (pv 5) (pa_cons pe_str (pa_cons (pe_ix ix_list (pv 2) pe_int (fun _ _ => rfl)) (pa_cons (pe_call G2 (hr.mono (by decide)) (by rfl) m2 k2 b2 .nil pass0 (pa_cons (pv 0) pa_nil)) pa_nil))))) pa_nil))))
            (pss_one (ps_expr (pe_bm PySem.F.plainAttrs_list PySem.F.slot_list_append PySem.F.type_list_append mt_append (pv 4) (pa_cons
              (pe_call G4 hr (by rfl) m4 k4 b4 .nil pass0 (pa_cons (pv 0) (pa_cons (pv 5) (pa_cons (pv 2) (pa_cons (pv 3) pa_nil))))) pa_nil)))))
        (pss_one (ps_set (i := 5) scDeeds.nd rfl (Or.inl rfl) (pe_op op_add (pv 5) (pe_call G1 (hr.mono (by decide)) (by rfl) m1 k1 b1 .nil pass0 (pa_cons (pv 0) (pa_cons (pe_lst (pa_cons pe_int (pa_cons pe_int (pa_cons pe_int (pa_cons pe_int pa_nil))))) pa_nil))))))))
      (pss_one (ps_ret (pv 4))))), ?_⟩
    refine ⟨_, rfl, z, rfl, hz, fun ln ss Ga ba sa na ha hN => ?_⟩
    refine ⟨_, rfl, by show 1 ≤ sizeLine; decide, fun p1 e1 => ⟨by show 2 ≤ sizeLine; decide, fun p2 e2 => ⟨by show 3 ≤ sizeLine; decide, fun p3 e3 => ⟨by show 3 ≤ sizeLine; decide, fun p4 e4 => ?_⟩⟩⟩⟩
    obtain ⟨oz, z0⟩ := sa.some
    have s1 := same_new (o := HO.lst [V.int 0]) e1
    have s2 := same_new (o := HO.lst [V.int 0, V.int 1]) e2
    have s3 := same_new (o := HO.lst [V.int 3, V.int 9, V.int 5]) e3
    have s4 := same_new (o := HO.lst [.ref p1, .ref p2, .ref p3]) e4
    have z1 := s1 _ _ z0
    have z2 := s2 _ _ z1
    have z3 := s3 _ _ z2
    have n1 : p1 ≠ z := (ne_of_none z0 e1).symm
    have n2 : p2 ≠ z := (ne_of_none z1 e2).symm
    have n3 : p3 ≠ z := (ne_of_none z2 e3).symm
    have n4 : p4 ≠ z := (ne_of_none z3 e4).symm
    have bq := But.of (z := z) (((s1.trans s2).trans s3).trans s4)
    have k1 := s4 _ _ (s3 _ _ (s2 p1 _ upd_same))
    have k2 := s4 _ _ (s3 p2 _ upd_same)
    have k3 := s4 p3 _ upd_same
    refine ⟨z, p4, _, rfl, (((sa.new e1).new e2).new e3).new e4, n4, upd_same, by simp, by show 3 ≤ 1000; decide, fun i v Gb hi bb sb => ?_⟩
    obtain ⟨lk, ks, rfl, nk, hk, hK⟩ : ∃ lk ks, v = .ref lk ∧ lk ≠ z ∧ Gb lk = some (.lst (List.map V.int ks)) ∧ Kys ks := by
      have hm := List.mem_of_getElem? hi; skip
      simp only [List.mem_cons, List.not_mem_nil, or_false] at hm; skip
      rcases hm with rfl | rfl | rfl
      · exact ⟨p1, [0], rfl, n1, bb _ _ n1 NoT.lst k1, by simp, by decide, by decide⟩
      · exact ⟨p2, [0, 1], rfl, n2, bb _ _ n2 NoT.lst k2, by simp, by decide, by decide⟩
      · exact ⟨p3, [3, 9, 5], rfl, n3, bb _ _ n3 NoT.lst k3, by simp, by decide, by decide⟩
    refine ⟨by show 0 ≤ sizeLine; decide, fun pf ef => ⟨_, _, _, rfl, ?_⟩⟩
    obtain ⟨oz2, zb⟩ := sb.some
    have nf : pf ≠ z := (ne_of_none zb ef).symm
    have bf := But.new (z := z) (o := HO.lst []) ef
    have sf := sb.new (o := HO.lst []) ef
    have hf : upd Gb pf (.lst []) pf = some (.lst []) := upd_same
    have hnf := bf _ _ na NoT.lst (bb _ _ na NoT.lst (bq _ _ na NoT.lst ha))
    have hkf := bf _ _ nk NoT.lst hk
    have b0 : But z H (upd Gb pf (.lst [])) := ((ba.trans bq).trans bb).trans bf
    have nlf : pf ≠ ln := fun e => by
      subst e
      rw [bb _ _ na NoT.lst (bq _ _ na NoT.lst ha)] at ef
      cases ef
    have nkf : pf ≠ lk := fun e => by
      subst e
      rw [hk] at ef
      cases ef
    have hfresh : ∀ o, H pf = some o → NoT o → False := fun o e no => by
      have := bb _ _ nf no (bq _ _ nf no (ba _ _ nf no e))
      rw [this] at ef
      cases ef
    generalize upd Gb pf (.lst []) = Gc at bf sf hf hnf hkf b0 ⊢
    obtain ⟨oz3, zc⟩ := sf.some
    refine ⟨_, rfl, by show 4 ≤ sizeLine; decide, fun p5 e5 => ⟨z, p5, _, rfl, sf.new e5, (ne_of_none zc e5).symm, upd_same, by simp, by show 4 ≤ 1000; decide, fun i2 v2 Gd hi2 bd sd => ?_⟩⟩
    obtain ⟨mo, rfl, mo0, mo1⟩ : ∃ mo : Int, v2 = .int mo ∧ 1 ≤ mo ∧ mo ≤ 900 := by
      have hm := List.mem_of_getElem? hi2
      simp only [List.mem_cons, List.not_mem_nil, or_false] at hm; skip
      rcases hm with rfl | rfl | rfl | rfl <;> exact ⟨_, rfl, by decide, by decide⟩
    have b5 : But z Gc Gd := (But.new e5).trans bd
    refine ⟨_, rfl, _, rfl, _, _, rfl, rfl, z, _, rfl, sd, by decide, by decide, fun r Ge r0 r1 be se => ⟨r, rfl, by omega, by omega, ?_⟩⟩
    have bge : But z Gc Ge := b5.trans be
    refine for_range (n := r.toNat) (fun i σ G => ∃ (mo : Int) (x : Option V) (us : List V), σ = [some (.ref z), some (.int 8), some (.ref ln), some (.ref lk), some (.ref pf), some (.int mo), x] ∧ 1 ≤ mo ∧ mo ≤ 900 + 5 * (i : Int) ∧ G ln = some (.lst (ss.map V.str)) ∧ G lk = some (.lst (ks.map V.int)) ∧ But z H G ∧ Src z G ∧ G pf = some (.lst us) ∧ us.length = i ∧ ∃ L : List RowD, us = L.map rv ∧ (∀ r ∈ L, RowOk z G r ∧ r.1 < mo) ∧ Ups_ L)
      ⟨mo, none, [], rfl, mo0, by omega, bge _ _ na NoT.lst hnf, bge _ _ nk NoT.lst hkf, b0.trans bge, se, bge _ _ nf NoT.lst hf, rfl, [], rfl, (fun u h => by cases h), List.Pairwise.nil⟩ ?_ ?_
    · rintro i σ G hi ⟨mo, x, us, rfl, c1, c2, c3, c4, c5, c6, c7, c8, L, c9, c10, c11⟩
      have hi7 : i < 8 := by omega
      have end_ : ∀ (m2 : Int) (G2 G4 : Hp) (u : V) (d : PyData), But z G G2 → Src z G2 → DD mo z G2 u d → mo + 1 ≤ m2 → m2 ≤ mo + 5 → But z (upd G2 pf (.lst (us ++ [u]))) G4 → Src z G4 →
          ∃ (mo : Int) (x : Option V) (us : List V), [some (V.ref z), some (V.int 8), some (V.ref ln), some (V.ref lk), some (V.ref pf), some (V.int m2), some (V.int (0 + (i : Int)))] = [some (.ref z), some (.int 8), some (.ref ln), some (.ref lk), some (.ref pf), some (.int mo), x] ∧ 1 ≤ mo ∧ mo ≤ 900 + 5 * ((i + 1 : Nat) : Int) ∧ G4 ln = some (.lst (ss.map V.str)) ∧ G4 lk = some (.lst (ks.map V.int)) ∧ But z H G4 ∧ Src z G4 ∧ G4 pf = some (.lst us) ∧ us.length = i + 1 ∧ ∃ L : List RowD, us = L.map rv ∧ (∀ r ∈ L, RowOk z G4 r ∧ r.1 < mo) ∧ Ups_ L := fun m2 G2 G4 u d b s hd l1 l2 b4 s4 => by
        have hpf := b _ _ nf NoT.lst c7
        have up : ∀ b' o, b' ≠ z → b' ≠ pf → NoT o → G b' = some o → G4 b' = some o := fun b' o n1 n2 no e => b4 _ _ n1 no ((upd_ne n2).trans (b _ _ n1 no e))
        refine ⟨m2, _, us ++ [u], rfl, by omega, by omega, up _ _ na nlf.symm NoT.lst c3, up _ _ nk nkf.symm NoT.lst c4, fun b' o n1 no e => ?_, s4, b4 _ _ nf NoT.lst upd_same, by rw [List.length_append, c8]; rfl, L ++ [(mo, u, d)], by rw [List.map_append, c9]; rfl, fun w hw => ?_, List.pairwise_append.mpr ⟨c11, List.pairwise_singleton _ _, fun a ha b hb => by
          rw [List.mem_singleton.mp hb]
          exact (c10 a ha).2⟩⟩
        · exact up b' o n1 (fun e2 => by
            subst e2
            exact hfresh o e no) no (c5 _ _ n1 no e)
        · rcases List.mem_append.mp hw with hw | hw
          · obtain ⟨⟨hd', w1, w2⟩, w3⟩ := c10 w hw
            exact ⟨⟨((hd'.to b).off hpf).to b4, w1, w2⟩, by omega⟩
          · rw [List.mem_singleton.mp hw]
            exact ⟨⟨(hd.off hpf).to b4, c1, by omega⟩, by show mo < m2; omega⟩
      refine ⟨_, rfl, rfl, _, rfl, ?_⟩; skip
      refine ite2 (fun e => ?_) fun e => ?_
      · refine ⟨_, rfl, z, 3, rfl, c6, by decide, by decide, fun r G2 r0 r1 b2 s2 => ⟨_, _, rfl, rfl, _, rfl, ?_⟩⟩
        refine ite2 (fun e => ?_) fun e => ?_
        · cases ss with
          | nil => exact absurd rfl hN.1.1
          | cons nm rs =>
          refine ⟨_, rfl, .inl ⟨rfl, _, SqL.of (b2 _ _ nf NoT.lst c7)⟩, _, rfl, _, rfl, ln, _, _, .str nm, rfl, rfl, SqL.of (b2 _ _ na NoT.lst c3), atI_nat (j := 0) rfl, _, rfl, z, rfl, s2, fun n G3 n0 n1 b3 s3 => ⟨by show 4 ≤ sizeLine; decide, fun p o e ho => ?_⟩⟩
          obtain ⟨d1, d2, d3⟩ := mk_tup (ds := [.int mo, .str "add", .str nm, .int n]) e ho s3 (fun m => .cons (.int mo) (.cons (.str "add") (.cons (.str nm) (.cons (.int n) .nil))))
          have b4 := (b2.trans b3).trans d1
          have hdd : DD mo z (upd G3 p (.frz o (.tup [.int mo, .str "add", .str nm, .int n]))) (.ref p) (.tuple [.int mo, .str "add", .str nm, .int n]) := ⟨d3, deed_of c1 (by omega) form_add (by
            show (isName (.str nm) && within (.int n) 0 99) = true
            rw [isName_of (hN.1.2.2 nm List.mem_cons_self), within_of n0 n1]
            rfl), _, rfl, by simp, by simp, (BdA.cons (D := 2) (Bd.int (by omega) (by omega)) (BdA.cons (Bd.str (x := "add") (by decide +kernel)) (BdA.cons (Bd.str (name_str (hN.1.2.2 nm List.mem_cons_self))) (BdA.cons (Bd.int (by omega) (by omega)) BdA.nil)))).mono (by decide) (by decide)⟩
          exact ⟨pf, us, .ref p, rfl, rfl, b4 _ _ nf NoT.lst c7, small1000 (by omega), dd_rest (d2.set nf) fun m2 G5 l1 l2 b5 s5 => end_ m2 _ G5 _ _ b4 d2 hdd l1 l2 b5 s5⟩
        · exact dd_deed s2 c1 (by omega) na (b2 _ _ na NoT.lst c3) hN nk (b2 _ _ nk NoT.lst c4) hK nf (b2 _ _ nf NoT.lst c7) (by omega) fun u d G3 b3 s3 hd => dd_rest (s3.set nf) fun m2 G5 l1 l2 b5 s5 => end_ m2 _ G5 _ _ (b2.trans b3) s3 hd l1 l2 b5 s5
      · exact dd_deed c6 c1 (by omega) na c3 hN nk c4 hK nf c7 (by omega) fun u d G3 b3 s3 hd => dd_rest (s3.set nf) fun m2 G5 l1 l2 b5 s5 => end_ m2 _ G5 _ _ b3 s3 hd l1 l2 b5 s5
    · rintro σ G ⟨mo, x, us, rfl, c1, c2, c3, c4, c5, c6, c7, c8, L, rfl, c10, c11⟩
      rw [List.length_map] at c8
      exact ⟨_, rfl, q pf L G c5 c6 nf c7 (by omega) (fun r hr => (c10 r hr).1) c11⟩
end
end Pl

namespace Pl
open L2 PySem PySem.Spec PyProof.Rows
/-! ### x in o, o[x], len(o), o == x, o != x of an own class -/
section
variable {X : Cx} {CX : CXT} {C f : Addr} {fd : FuncData} {ps : List Str} {k : Nat} {sp : Sp} {E : XK}
/-- a def of an own class that Python calls by itself -/
structure Dun (X : Cx) (CX : CXT) (C : Addr) (m : Str) (k : Nat) (ps : List Str) (sp : Sp) (E : XK) : Prop where
  ex : ∃ (f : Addr) (fd : FuncData), FnOk X.prog X.w X.K X.mg X.base CX k f fd ps sp ∧ PySem.W.findIn X.K (.ref C) m = some (some (.ref f)) ∧ PySem.W.isFn X.K (.ref f) = true ∧ Binds X.K fd ps []
  ps : Passes CX X E
theorem inst_of {pins : List (Addr × Obj)} {σ : L2.St} {H : Hp} {s : Shared} {a dx : Addr} {fs : List (Str × V)} (I : Inv X pins σ H s) (h : H a = some (.ins C dx fs)) : ∃ ox od, PySem.W.InstAt s.heap a ox C od := by
  obtain ⟨mA, J, _⟩ := ins_get I.hok h
  obtain ⟨od, J, _⟩ := J.look
  exact ⟨_, _, J⟩
def rInO (C : Addr) (no : Bool) (sp : Sp) (E : XK) : R2 := fun x y H Q => ∃ a dx fs, y = .ref a ∧ H a = some (.ins C dx fs) ∧ sp [.ref a, x] H (fun r H' => ∃ b, r = .bl b ∧ Q (.bl (no != b)) H') E
theorem op_inO (D : Dun X CX C "__contains__" k ps sp E) (hr : Room k X.A) : OpR X (compareOp .In) (rInO C false sp E) := by
  intro pins s σ H x y v u Q I rx ry h; skip
  obtain ⟨f, fd, F, hs, hf, hb⟩ := D.ex
  obtain ⟨a, dx, fs, rfl, ha, q⟩ := h; skip
  cases (show (u = Value.ref a) from ry)
  obtain ⟨ox, od, J⟩ := inst_of I ha
  obtain ⟨m, hF⟩ := I.fr
  refine PySem.W.in_K hF I.ok.mod.kin J hs hf (wpAny_mono (run_fn (us := [.ref a, v]) (vs := [.ref a, x]) F hr hb .nil D.ps I (.cons rfl (.cons rx .nil)) q) (fun w s' z => ?_) fun _ _ e => e)
  obtain ⟨r, H', I', rr, b, rfl, qb⟩ := z
  cases (show w = Value.bool b from rr)
  refine wpAny_truthy_bool ⟨.bl _, H', I', rfl, ?_⟩
  cases b <;> exact qb
theorem op_notInO (D : Dun X CX C "__contains__" k ps sp E) (hr : Room k X.A) : OpR X (compareOp .NotIn) (rInO C true sp E) := by
  intro pins s σ H x y v u Q I rx ry h; skip
  obtain ⟨f, fd, F, hs, hf, hb⟩ := D.ex
  obtain ⟨a, dx, fs, rfl, ha, q⟩ := h; skip
  cases (show (u = Value.ref a) from ry)
  obtain ⟨ox, od, J⟩ := inst_of I ha
  obtain ⟨m, hF⟩ := I.fr
  refine PySem.W.notIn_K hF I.ok.mod.kin J hs hf (wpAny_mono (run_fn (us := [.ref a, v]) (vs := [.ref a, x]) F hr hb .nil D.ps I (.cons rfl (.cons rx .nil)) q) (fun w s' z => ?_) fun _ _ e => e)
  obtain ⟨r, H', I', rr, b, rfl, qb⟩ := z
  cases (show w = Value.bool b from rr)
  refine wpAny_truthy_bool ⟨.bl _, H', I', rfl, ?_⟩
  cases b <;> exact qb
def rLenO (C : Addr) (sp : Sp) (E : XK) : List V → Hp → VK → Prop := fun xs H Q => ∃ a dx fs, xs = [V.ref a] ∧ H a = some (.ins C dx fs) ∧ sp [.ref a] H (fun r H' => ∃ n : Int, r = .int n ∧ 0 ≤ n ∧ n < 2 ^ 63 ∧ Q (.int n) H') E
theorem cr_lenO (D : Dun X CX C "__len__" k ps sp E) (hr : Room (k + 1) X.A) : CallR X (.builtin "len") (rLenO C sp E) := by
  intro pins s σ H xs us Q I r h; skip
  obtain ⟨f, fd, F, hs, hf, hb⟩ := D.ex
  obtain ⟨a, dx, fs, rfl, ha, q⟩ := h; skip
  obtain rfl := Vals.ref1 r
  obtain ⟨ox, od, J⟩ := inst_of I ha
  obtain ⟨m, hF⟩ := I.fr
  have e0 := I.env0.in1
  have hl := F.len _ _ _ _ q
  have r2 : Vals [V.ref a] [Value.ref a] := .cons rfl .nil; skip
  refine PySem.W.len_K hF I.ok.mod.kin J hs hf (wpAny_call (codeAny_mono (F.run X.A.in1 X.stack s H ⟨[.ref a], []⟩ [.ref a] [.ref a] _ E hr.in1 e0 (hb s [.ref a] I.kIn (by rw [List.append_nil, ← hl]; rfl)) r2 q) fun r s' hq => ?_))
  cases r with
  | error e => exact D.ps pins σ H s e s' I hq
  | ok fl =>
    cases fl with
    | ret u =>
      obtain ⟨v, H', I', rv, n, rfl, n0, n1, qn⟩ := I.after hq
      obtain ⟨t, rfl⟩ := (show ∃ t, u = Value.int n t from rv)
      exact ⟨⟨n0, n1⟩, .int n, H', I'.tok _, ⟨_, rfl⟩, qn⟩
    | next => exact False.elim hq
    | brk => exact False.elim hq
    | cont => exact False.elim hq
/-- run at one level in -/
theorem run_in1 {pins : List (Addr × Obj)} {σ : L2.St} {H : Hp} {s : Shared} {Q : VK} {us : List Value} {vs : List V} (F : FnOk X.prog X.w X.K X.mg X.base CX k f fd ps sp) (hr : Room (k + 1) X.A) (hb : Binds X.K fd ps []) (hx : Passes CX X E) (I : Inv X pins σ H s) (r : Vals vs us) (h : sp vs H Q E) : wpAny (model X.prog X.w) X.A.in1 (call (.ref f) us) (EP X pins σ Q) X.xe s := by
  have hl := F.len _ _ _ _ h
  refine wpAny_call (codeAny_mono (F.run X.A.in1 X.stack s H ⟨us, []⟩ us vs Q E hr.in1 I.env0.in1 (by
    have := hb s us I.kIn (by rw [List.append_nil, ← r.length, hl])
    rwa [List.append_nil] at this) r h) fun r s' hq => ?_)
  cases r with
  | error e => exact (hx pins σ H s e s' I hq)
  | ok fl =>
    cases fl with
    | ret u => exact I.after hq
    | next => exact False.elim hq
    | brk => exact False.elim hq
    | cont => exact False.elim hq
def rIxO (C : Addr) (sp : Sp) (E : XK) : R2 := fun x y H Q => ∃ a dx fs, x = .ref a ∧ H a = some (.ins C dx fs) ∧ sp [.ref a, y] H Q E
theorem pe_ixO {a b : Expr} {ta tb : TE} {pos : Pos} (D : Dun X CX C "__getitem__" k ps sp E) (hfn : ∀ f, PySem.W.findIn X.K (.ref C) "__getitem__" = some (some (.ref f)) → PySem.W.fnIn X.K f = true) (hr : Room (k + 1) X.A) (ha : PE X a ta) (hb : PE X b tb)
    (hsl : ∀ o i, subscripted b true o i = runValue (.builtin "lifetime.subscript" ⟨[o, i], []⟩) := by intro _ _; with_unfolding_all rfl) : PE X (.Subscript a b pos) (tOp (rIxO C sp E) ta tb) := by
  refine ⟨fun pins s σ H Q I h => ?_⟩; skip
  refine Subscript_ (binT ha hb I h fun v u s2 x y H2 I2 rx ry q => ?_); skip
  obtain ⟨f, fd, F, hs, hf, hbd⟩ := D.ex
  obtain ⟨a', dx, fs, rfl, hA, q⟩ := q
  cases (show v = Value.ref a' from rx)
  obtain ⟨ox, od, J⟩ := inst_of I2 hA
  obtain ⟨m, hF⟩ := I2.fr
  exact PySem.W.sub_K hF I2.ok.mod.kin J hs (hfn f hs) hf (run_in1 (us := [.ref a', u]) (vs := [.ref a', y]) F hr hbd D.ps I2 (.cons rfl (.cons ry .nil)) q) (hsl _ _)
/-- o == x by the own __eq__; x of a class that does not come first -/
def rEqO (K : PySem.W.Frag) (C : Addr) (no : Bool) (sp : Sp) (E : XK) : R2 := fun x y H Q => ∃ a dx fs t, x = .ref a ∧ H a = some (.ins C dx fs) ∧ TyX K H y t ∧ PySem.W.notFirst K C t = true ∧ sp [.ref a, y] H (fun r H' => ∃ b, r = .bl b ∧ Q (.bl (no != b)) H') E
theorem op_eqO (D : Dun X CX C "__eq__" k ps sp E) (hr : Room k X.A) : OpR X (compareOp .Eq) (rEqO X.K C false sp E) := by
  intro pins s σ H x y v u Q I rx ry h; skip
  obtain ⟨f, fd, F, hs, hf, hb⟩ := D.ex
  obtain ⟨a, dx, fs, t, rfl, ha, ty, nf, q⟩ := h
  cases (show (v = Value.ref a) from rx)
  obtain ⟨ox, od, J⟩ := inst_of I ha
  obtain ⟨m, hF⟩ := I.fr
  obtain ⟨P, KX, hP, _⟩ := kit_of I ry ty
  refine PySem.W.cmp_K (op := .Eq) (tb := t) hr.units0 hF I.ok.mod.kin J (KX.ty _ _ I.kIn hP) nf hs hf ?_
  refine wpAny_mono (run_fn (us := [.ref a, u]) (vs := [.ref a, y]) F hr hb .nil D.ps I (.cons rfl (.cons ry .nil)) q) (fun w s' z => ?_) fun _ _ e => e
  obtain ⟨r, H', I', rr, b, rfl, qb⟩ := z
  exact SlX.cmpback rr ⟨.bl b, H', I', rr, by cases b <;> exact qb⟩
/-- the inherited != asks the own == -/
theorem ifBound_objNe {M : Model} {A : Around} {E : Value → Shared → Prop} {s : Shared} {K : PySem.W.Frag} {x C : Addr} {ox : Obj} {od : Option Obj} {args : List Value} {Q : Option Value → Shared → Prop} (X : K.In s.heap) (I : PySem.W.InstAt s.heap x ox C od) (hs : PySem.W.findIn K (.ref C) "__ne__" = some (some (.builtin "object.__ne__")))
    (h : wpAny M A (call (.builtin "object.__ne__") (.ref x :: args)) (fun v => Q (some v)) E s) : wpAny M A (callSpecialIfBound? (.ref x) "__ne__" args) Q E s := by
  simp only [callSpecialIfBound?, bindSpecialIfBound?]; skip
  refine wpAny_holding (wpAny_bind (wpAny_bind (wpAny_bind (I.type.here ((PySem.W.looks_findIn X hs).here ?_))))); skip
  refine wpAny_bind (wpAny_askSetting (wpAny_ite ?_)); skip
  have fin : wpAny M A (call (.builtin "object.__ne__") ([.ref x] ++ args) >>= fun v => pure (some v)) Q E s := wpAny_bind (wpAny_mono h (fun v s' h' => wpAny_pure h') fun _ _ h' => h')
  split
  · exact wpAny_bind (wpAny_of_eq (F.cmp_object.ne.bind _) (wpAny_pure (by exact fin)))
  · exact wpAny_tryCatch (wpAny_bind (wpAny_of_eq (F.cmp_object.ne.bind _) (wpAny_pure (by exact fin))))
theorem op_neO (D : Dun X CX C "__eq__" k ps sp E) (hr : Room (k + 1) X.A) (hne : PySem.W.findIn X.K (.ref C) "__ne__" = some (some (.builtin "object.__ne__"))) (hm : PySem.W.mroIn X.K C (.type "object") = some true) : OpR X (compareOp .NotEq) (rEqO X.K C true sp E) := by
  intro pins s σ H x y v u Q I rx ry h; skip
  obtain ⟨f, fd, Fn, hs, hf, hb⟩ := D.ex
  obtain ⟨a, dx, fs, t, rfl, ha, ty, nf, q⟩ := h
  cases (show (v = Value.ref a) from rx)
  obtain ⟨ox, od, J⟩ := inst_of I ha
  obtain ⟨m, hF⟩ := I.fr
  obtain ⟨P, KX, hP, _⟩ := kit_of I ry ty
  have hu : X.A.in1.units < cLine := hr.in1.units0
  have hu0 : X.A.units < cLine := hr.units0
  have body : wpAny (model X.prog X.w) X.A.in1 (Builtin.«object.__ne__» ⟨[.ref a, u], []⟩) (fun fin s' => ∃ v, fin = .done (.ret v) ∧ PySem.W.CmpBack (EP X pins σ Q) v s') X.xe s := by
    unfold Builtin.«object.__ne__»; skip
    refine wpAny_bind (m := slotArgs "__ne__" 1 _) (wpAny_pure ?_)
    refine wpAny_bind (wpAny_cRoomFor hu ?_); skip
    refine wpAny_bind (PySem.W.ifBound_K I.kIn J hs hf (wpAny_mono (run_in1 (us := [.ref a, u]) (vs := [.ref a, y]) Fn hr hb D.ps I (.cons rfl (.cons ry .nil)) q) (fun w s' z => ?_) fun _ _ e => e))
    obtain ⟨r, H', I', rr, b, rfl, qb⟩ := z
    cases (show w = Value.bool b from rr)
    refine wpAny_bind (wpAny_truthy_bool (wpAny_pure ⟨_, rfl, .bl _, H', I', rfl, ?_⟩))
    cases b <;> exact qb
  have one : wpAny (model X.prog X.w) X.A (tryCompare (.ref a) (cmpInfo .NotEq).2.1 u) (fun r s' => ∃ v, r = some v ∧ EP X pins σ Q v s') X.xe s := by
    unfold tryCompare
    refine wpAny_bind (ifBound_objNe I.kIn J hne (wpAny_call (codeAny_call_builtin F.cmp_object.ne.plain F.cmpEntry_ne (PySem.W.check_slot F.cmpKind_ne F.cmpSplit_ne (J.type.andThen (PySem.W.looks_mroIn I.kIn hm)) (F.cmpArgs_ne _ _) ?_))))
    refine wpAny_mono body (fun fin s' z => ?_) fun _ _ e => e
    obtain ⟨v, rfl, z⟩ := z
    cases v <;> first | exact z.elim | exact wpAny_pure ⟨_, rfl, z⟩
  show wpAny (model X.prog X.w) X.A (richCompare .NotEq (.ref a) u) (EP X pins σ Q) X.xe s
  unfold richCompare
  simp only [oneThing_ref]
  refine wpAny_holding (wpAny_bind (wpAny_cRoomFor hu0 ?_))
  refine wpAny_bind (J.type.here (wpAny_bind ((KX.ty _ _ I.kIn hP).here ?_)))
  have fin : wpAny (model X.prog X.w) X.A (tryCompare (.ref a) (cmpInfo .NotEq).2.1 u) (fun r s' => ∃ v, r = some v ∧ EP X pins σ Q v s') X.xe s := one
  by_cases q1 : t = .ref C
  · subst q1
    rw [if_neg (by simp)]
    refine wpAny_bind (wpAny_pure ?_); skip
    simp only [Bool.false_eq_true, if_false]; skip
    refine wpAny_bind (wpAny_mono fin (fun r s' z => ?_) fun _ _ e => e)
    obtain ⟨v, rfl, hq⟩ := z
    exact wpAny_pure hq
  · rw [if_pos (by simpa using Ne.symm q1)]
    have e : PySem.W.subIn X.K t (.ref C) = some false := by
      rcases Bool.or_eq_true_iff.mp nf with e | e
      · exact absurd (eq_of_beq e) q1
      · exact eq_of_beq e
    refine wpAny_bind ((PySem.W.looks_subIn I.kIn e).here ?_)
    simp only [Bool.false_eq_true, if_false]; skip
    refine wpAny_bind (wpAny_mono fin (fun r s' z => ?_) fun _ _ e => e)
    obtain ⟨v, rfl, hq⟩ := z
    exact wpAny_pure hq
end
end Pl

namespace Pl
open L2 PySem PySem.Spec PyProof.Rows
/-! ### dicts of deeds by moments, compared -/
abbrev kR (r : RowD) : Key := Sum.inl r.1
def kvR (L : List RowD) : List (Key × V) := L.map fun r => (kR r, rv r)
def findR (M : List RowD) (m : Int) : Option RowD := M.find? fun q => decide (q.1 = m)
def hitR (M : List RowD) (r : RowD) : Bool := match findR M r.1 with
  | some q => PyData.eqv (rd r) (rd q)
  | none => false
def eqRows (L M : List RowD) : Bool := L.length == M.length && L.all (hitR M)
theorem valV_kvR : ∀ (M : List RowD) (m : Int), valV (kvR M) (Sum.inl m) = (findR M m).map rv
  | [], _ => rfl
  | q :: M, m => by
    unfold kvR findR
    rw [List.map_cons, List.find?_cons]
    by_cases h : q.1 = m
    · rw [valV_pos (by show kR q = _; rw [← h]), decide_eq_true h]
      rfl
    · rw [valV_neg (by
        intro e
        exact h (Sum.inl.inj e)), decide_eq_false h]
      exact valV_kvR M m
theorem findR_mem {M : List RowD} {m : Int} {q : RowD} (h : findR M m = some q) : q ∈ M ∧ q.1 = m := by
  unfold findR at h
  exact ⟨List.mem_of_find?_eq_some h, by simpa using List.find?_some h⟩
section
variable {X : Cx}
theorem hits_rows {pins : List (Addr × Obj)} {σ : L2.St} {H : Hp} {s : Shared} {A : Around} (I : Inv X pins σ H s) (hu : A.units + 64 < cLine) {M : List RowD} {vb : List (Key × Value)} (rb : KV (kvR M) vb) (hM : ∀ r ∈ M, Dp X.K H (rv r) (rd r) ∧ okL (rd r)) :
    ∀ {L : List RowD} {va : List (Key × Value)}, KV (kvR L) va → (∀ r ∈ L, Dp X.K H (rv r) (rd r) ∧ okL (rd r)) → PySem.W.KeqHits A s vb va (L.all (hitR M))
  | [], va, ra, _ => by
    cases ra
    exact .nil
  | r :: L, va, ra, hL => by
    have ra' : KV ((kR r, rv r) :: kvR L) va := ra
    unfold KV at ra'
    cases ra' with
    | @cons p q ps qs h t =>
      obtain ⟨k, v⟩ := q
      obtain ⟨h1, h2⟩ := h
      have h1 : kR r = k := h1
      have h2 : RelV (rv r) v := h2
      subst h1
      have rr := KV.val rb (kR r)
      have ih := hits_rows I hu rb hM (L := L) t fun r' hr => hL r' (List.mem_cons_of_mem _ hr)
      rw [valV_kvR] at rr
      rw [List.all_cons]
      unfold hitR
      cases e : findR M r.1 with
      | none =>
        rw [e] at rr
        rw [Bool.false_and]
        exact .miss (RelO.none_of rr)
      | some q =>
        rw [e] at rr
        obtain ⟨y, hy, ry⟩ := RelO.some_of rr
        obtain ⟨d1, l1⟩ := hL r List.mem_cons_self
        obtain ⟨d2, l2⟩ := hM q (findR_mem e).1
        obtain ⟨as, r1⟩ := Dp.reads I _ _ v d1 h2
        obtain ⟨bs, r2⟩ := Dp.reads I _ _ y d2 ry
        have dp := l1.2
        exact .hit hy (SeqAt.eqAt_reads _ _ A s v y as bs r1 r2 l1.1 l2.1 (by omega)) ih
def rEqR (K : PySem.W.Frag) : R2 := fun x y H Q => ∃ a b L M, x = .ref a ∧ y = .ref b ∧ H a = some (.dK (kvR L)) ∧ H b = some (.dK (kvR M)) ∧ (∀ r ∈ L, Dp K H (rv r) (rd r) ∧ okL (rd r)) ∧ (∀ r ∈ M, Dp K H (rv r) (rd r) ∧ okL (rd r)) ∧ Q (.bl (eqRows L M)) H
theorem op_eqR (hu : X.A.units + 65 < cLine) : OpR X (compareOp .Eq) (rEqR X.K) := by
  intro pins s σ H x y v u Q I rx ry h; skip
  obtain ⟨a, b, L, M, rfl, rfl, ea, eb, hL, hM, q⟩ := h
  obtain rfl : v = Value.ref a := rx; skip
  obtain rfl : u = Value.ref b := ry; skip
  obtain ⟨_, ya, va, ra, da⟩ := (show ObjOk X.prog X.w H s.heap a (.dK (kvR L)) from I.hok a _ ea)
  obtain ⟨_, yb, vb, rb, db⟩ := (show ObjOk X.prog X.w H s.heap b (.dK (kvR M)) from I.hok b _ eb)
  have l1 : va.length = L.length := by
    rw [← ra.length]
    exact List.length_map _
  have l2 : vb.length = M.length := by
    rw [← rb.length]
    exact List.length_map _
  have hu1 : X.A.in1.units + 64 < cLine := by
    show X.A.units + 1 + 64 < cLine
    omega
  refine PySem.W.keq_eq (knd := mixKind X.prog X.w) (r := L.all (hitR M)) ya yb da db (by omega) (fun _ => hits_rows I hu1 rb hM ra hL) ?_
  rw [l1, l2]
  exact ⟨.bl _, H, I, rfl, q⟩
end
end Pl

namespace Pl
open L2 PySem PySem.Spec PyProof.Rows
/-! ### an own class over OverflowError with an __init__ of its own -/
abbrev ovTail : List Value := [.type "OverflowError", .type "ArithmeticError", .type "Exception", .type "BaseException", .type "object"]
structure OvC (K : PySem.W.Frag) (C : Addr) : Prop where
  cls : ∃ nm q N bs sn sub ab col dd k0 k1 k2 k3 k5, K.lookup C = some (excClassObj nm q C N bs ovTail true sn sub ab col dd k0 k1 k2 k3 k5 "OverflowError.__new__")
  sa : (PySem.W.findIn K (.ref C) "__setattr__" = some (some (.builtin "object.__setattr__")))
  exC : (PySem.W.subIn K (.ref C) (.type "BaseException") = some true)
  tyC : (PySem.W.typeIn K (.ref C) = some (.type "type"))
  kC : (PySem.W.keepIn K (.ref C) = true)
end Pl
namespace PySem
namespace PlOv
open Builtin Builtin.ObjectAttr PySem.HandSPX PyProof.Rows
section
variable {prog : Program} {w : World} {A : Around} {R : Result → Shared → Prop} {hp : Heap} {g : Array GenState} {d : Drawn} {t : Nat} {os : OsState}
theorem pass_ov (self : Value) (C : Addr) : refuseLoop self "__setattr__" (.ref C :: Pl.ovTail) = pure () := by
  rw [refuseLoop_ref]
  exact F.store_OverflowError.passes self
theorem osa_ov {K : W.Frag} {name : Str} {tk : Tok} {v : Value} {x C : Addr} {fv : Array Value} {cd : ClassData}
    (X : K.In hp) (hx : hp.get? x = some { cls := .ref C, data := .fields fv }) (hcd : W.clsIn K C = some cd) (hm : cd.mro = .ref C :: Pl.ovTail) (hh : cd.hasDict = true) (ha : W.findIn K (.ref C) name = some none)
    (hq : ∀ h' tk' dx, (∀ c o, c ≠ x → hp.get? c = some o → h'.get? c = some o) → hp.objs.size ≤ dx → dx ≠ x → h'.get? x = some { cls := .ref C, dict := some dx, data := .fields fv } →
      h'.Ns1 dx (fun z => if z = name then some v else none) → R (.ok (.ret .none)) ⟨h', g, d, tk', os⟩) :
    (codeAny (model prog w) A (.call (.builtin "object.__setattr__") ⟨[.ref x, .str name tk, v], []⟩) R ⟨hp, g, d, t, os⟩) := by
  have I : W.InstAt hp x { cls := .ref C, data := .fields fv } C none := ⟨hx, rfl, rfl, trivial⟩; skip
  have SF := F.store_object
  have new : x ≠ hp.objs.size := Nat.ne_of_lt (Heap.lt_size hx)
  have inst : W.Looks (model prog w) hp (isInstance (.ref x) (.type "object")) true := I.type.andThen (W.looks_mroIn X (by
    unfold W.mroIn
    rw [hcd, Option.bind_some, hm]
    rfl))
  refine codeAny_call_builtin SF.slot.plain SF.entry (@W.check_slot (model prog w) _ _ ⟨hp, g, d, t, os⟩ "object.__setattr__" "object" "__setattr__" (.ref x) [.str name tk, v] [] _ SF.kind SF.split inst (SF.args _ _ _) ?_)
  have rows : W.Looks (model prog w) hp (mroOf (.ref C)) cd.mro := (W.looks_clsIn X hcd).andThen .now
  have none_ : W.Looks (model prog w) hp (storeTaker? none) none := .now
  have data : W.Looks (model prog w) hp (classData C) cd := W.looks_clsIn X hcd
  rw [W.osa_eq, refuse_eq]
  refine wpAny_bind (wpAny_bind (I.type.at (wpAny_bind (rows.at ?_))))
  rw [hm, pass_ov]
  refine wpAny_pure (wpAny_bind (I.type.at (wpAny_bind ((W.looks_findIn X ha).at (wpAny_bind (none_.at ?_))))))
  show wpAny _ _ (storeInOwnDict (.ref x) (.ref C) (.str name tk) name v false) _ _ _; skip
  obtain ⟨nm, bs, mro, ns, qn, hd, sn, sb, ab, col, del⟩ := cd; skip
  dsimp only at hh
  subst hh
  unfold storeInOwnDict ownDictForStores; skip
  repeat (first | with_reducible refine store_in_new ?_ ?_ | with_reducible refine wpAny_loadPart_at hx ?_ | with_reducible refine data.at ?_ | wp_step)
  · exact ⟨_, #[], _, (Heap.get?_update_ne _ _ _ _ new.symm).trans (Heap.get?_push_at rfl rfl), rfl, fun e he => absurd he (by simp), fun _ => rfl⟩
  · intro h' tk' hn' hs
    have there : (hp.push { cls := .type "dict", data := .dict #[] }).get? x = some { cls := .ref C, data := .fields fv } := Heap.get?_push_of_some _ hx
    refine hq h' tk' hp.objs.size (fun b o hb ho => ?_) (Nat.le_refl _) new.symm ((hs.2 x new).trans (Heap.get?_update_self _ there rfl)) hn'
    exact (hs.2 b (Nat.ne_of_lt (Heap.lt_size ho))).trans ((Heap.get?_update_ne _ _ _ _ hb).trans (Heap.get?_push_of_some _ ho))
end
end PlOv
end PySem
namespace Pl
open L2 PySem PySem.Spec PyProof.Rows
section
variable {X : Cx} {pins : List (Addr × Obj)} {σ : L2.St} {H : Hp} {s : Shared} {a C : Addr} {f : Str} {y : V} {u : Value} {Q : Unit → Shared → Prop} {E : Value → Shared → Prop} {A : Around}
theorem ost_ov (T : OvC X.K C) (I : Inv X pins σ H s) (e : H a = some (exo a C none)) (hno : PySem.W.findIn X.K (.ref C) f = some none) (ry : RelV y u)
    (h : ∀ dx s', H dx = none → dx ≠ a → Inv X pins σ (upd (upd H dx (exd dx [(f, y)])) a (exo a C (some dx))) s' → Q () s') : (wpAny (model X.prog X.w) A (setAttr (.ref a) f u) Q E s) := by
  obtain ⟨nm, q, N, bs, sn, sub, ab, col, dd, k0, k1, k2, k3, k5, hC⟩ := T.cls
  have hcl : PySem.W.clsIn X.K C = some { name := nm, bases := bs, mro := .ref C :: ovTail, ns := N, qualname := q, hasDict := true, slotNames := sn, subclasses := sub, abstract := ab, collection := col, hasDel := false } := by
    unfold PySem.W.clsIn
    rw [hC]
  obtain ⟨t1, ho⟩ := exo_at I.hok e; skip
  obtain ⟨hp, g, d, t, os⟩ := s
  refine PySem.W.set_plain I.kIn (ox := { cls := .ref C, dict := none, data := .fields #[.ref t1, .none, .none, .none, .bool false, .none] }) (od := none) ⟨ho, rfl, rfl, trivial⟩ T.sa ?_; skip
  refine PySem.PlOv.osa_ov I.kIn ho hcl rfl rfl hno fun h' tk' dx k dn dne hx hn => ?_
  have fresh : H dx = none := I.hok.fresh dn
  have old : ∀ {b : Addr} {o : Obj}, hp.get? b = some o → b ≠ dx := fun q => Nat.ne_of_lt (Nat.lt_of_lt_of_le (Heap.lt_size q) dn)
  have nota : ∀ {b : Addr}, H b = none → b ≠ a := fun n => (ne_of_none e n).symm
  have step : ∀ {b : Addr} {o : HO}, H b = some o → exo a C none ≠ o → upd (upd H dx (exd dx [(f, y)])) a (exo a C (some dx)) b = some o := fun {b o} q n => by
    rw [upd_ne (at_ne e q n), upd_ne (ne_of_none q fresh)]
    exact q
  have Un1 : (Un X.fs [] H (upd (upd H dx (exd dx [(f, y)])) a (exo a C (some dx))) hp h') := {
    keep := fun b o q n _ _ => k b o (nota n) q
    slot := fun b o q n _ _ => ⟨o.slots, k b o (nota n) q⟩
    free := fun b o q n _ => by rw [upd_ne (nota n), upd_ne (old q)]; exact n
    there := fun b o q _ => by
      by_cases hb : b = a
      · exact ⟨_, by rw [hb]; exact hx⟩; skip
      · exact ⟨o, k b o hb q⟩
    tups := fun b xs q => step q exo_tup
    frzs := fun b o v q => step q exo_frz
    tbls := fun b ps q => ⟨#[], by rw [step q exo_tbl]; simp⟩ }
  refine h dx _ fresh dne (I.un (t' := tk') Un1 fun b o q => ?_)
  by_cases hb : b = a
  · subst hb
    rw [upd_same] at q
    cases q
    exact exo_ok hx
  · rw [upd_ne hb] at q
    by_cases hd : b = dx
    · subst hd
      rw [upd_same] at q
      cases q
      exact exd_ok hn (relO_put (fs := []) ry fun g => True.intro); skip
    · rw [upd_ne hd] at q
      exact (I.hok b o q).stay (fun c o2 hc z => k c o2 (by
          rcases hc with hc | hc
          · rw [hc]
            exact hb
          · exact (at_ne e hc exo_own)) z)
        (fun c hc => step hc exo_own) (fun c xs hc => step hc exo_tup)
end
def tOstO (K : PySem.W.Frag) (f : Str) (to te : TE) : TS := fun D σ H => te σ H fun y H1 => to σ H1 fun x H2 => ∃ a C : Addr, x = .ref a ∧ OvC K C ∧ PySem.W.findIn K (.ref C) f = some none ∧ H2 a = some (exo a C none) ∧ ∀ dx, H2 dx = none → dx ≠ a → D.nx σ (upd (upd H2 dx (exd dx [(f, y)])) a (exo a C (some dx)))
section
variable {X : Cx} {o e : Expr} {es : List Expr} {to te : TE} {ta : TA} {f : Str} {p p' pos : Pos}
theorem ps_ostO (ho : PE X o to) (he : PE X e te) (hs : swapsWith e (some (.Attribute o f p')) pos.line X.env = pure false := by rfl) : PS X (.Assign [.Attribute o f p'] e pos) (tOstO X.K f to te) := by
  refine ⟨fun pins s σ H D I h => ?_⟩; skip
  refine plainObj_wpAny_Assign_Attribute (thn (he.run pins s σ H _ I h) fun v s1 ⟨y, H1, I1, r1, q1⟩ => thn (ho.run pins s1 σ H1 _ I1 q1) fun u s2 ⟨x, H2, I2, r2, a, C, ex, T, hno, ea, q⟩ => ?_) hs
  subst ex
  obtain rfl : u = Value.ref a := r2; skip
  exact ost_ov T I2 ea hno r1 fun dx s' n ne J => ⟨σ, _, J, q dx n ne⟩
theorem pmk_ov {CX : CXT} {x : Str} {C fI : Addr} {k : Nat} {fd : FuncData} {ps : List Str} {sp : Sp} (T : OvC X.K C) (iC : PySem.W.findIn X.K (.ref C) "__init__" = some (some (.ref fI))) (tI : PySem.W.typeIn X.K (.ref fI) = some (.type "function"))
    (F1 : FnOk X.prog X.w X.K X.mg X.base CX k fI fd ps sp) (hr : Room (k + 1) X.A) (hb : Binds X.K fd ps []) (hx : Passes CX X (fun _ _ _ => False)) (hg : Gl X x) (hm : X.mg x = some (.ref C)) (ha : PA X (e :: es) ta)
    (hdb : ((x == ("__debug__" : Str)) = false) := by decide) (he : starEach (e :: es) X.env = (false, eval e X.env) :: starEach es X.env := by rfl) (hpl : (backTo pos (starEach es X.env)).any (·.1) = false := by rfl) :
    PMk X (.Call (.Name x p) (e :: es) [] pos) (tMkO C sp [] ta) := by
  intro pins s σ H Q I h
  obtain ⟨nm, q, N, bs, sn, sub, ab, col, dd, k0, k1, k2, k3, k5, hC⟩ := T.cls
  refine wpAny_Call_Name_kw (ld_glob I hg hm ?_ hdb); skip
  refine PySem.W.callWith_K (h₀ := X.base) I.ok.mod.kin T.kC (thn (ha.run pos pins s σ H _ I h) fun us s1 ⟨vs, H1, I1, r1, hz, q1⟩ => ⟨I1.kIn, ?_⟩) he hpl; skip
  show wpAny _ _ (call (.ref C) us) _ _ _; skip
  obtain ⟨hp, g, dr, tk, os⟩ := s1; skip
  have sz : hp.objs.size ≤ hp.objs.size + 1 := Nat.le_succ _
  have fresh : H1 (hp.objs.size + 1) = none := I1.hok.fresh sz
  have hq := q1 (hp.objs.size + 1) fresh
  have kk : ∀ b o, hp.get? b = some o → ((hp.push (PySem.W.kdv_tup us)).push (PySem.HandSPX.excO C hp.objs.size)).get? b = some o := fun b o e => Heap.get?_push_of_some _ (Heap.get?_push_of_some _ e); skip
  have there : ((hp.push (PySem.W.kdv_tup us)).push (PySem.HandSPX.excO C hp.objs.size)).get? (hp.objs.size + 1) = some (PySem.HandSPX.excO C hp.objs.size) := by heap_get
  have I2 : (Inv X pins σ (upd H1 (hp.objs.size + 1) (exo (hp.objs.size + 1) C none)) ⟨(hp.push (PySem.W.kdv_tup us)).push (PySem.HandSPX.excO C hp.objs.size), g, dr, tk, os⟩) :=
    I1.laid (t' := tk) (a := hp.objs.size + 1) (o := exo (hp.objs.size + 1) C none) (h' := (hp.push (PySem.W.kdv_tup us)).push (PySem.HandSPX.excO C hp.objs.size)) kk sz (exo_ok there)
  have r2 : Vals (V.ref (hp.objs.size + 1) :: (vs ++ [])) (Value.ref (hp.objs.size + 1) :: (us ++ [])) := .cons rfl (r1.append .nil)
  have hl : ((Value.ref (hp.objs.size + 1) :: us ++ []).length = ps.length) := by
    have e := r2.length
    rw [F1.len _ _ _ _ hq] at e
    exact e.symm
  have few : us.length ≤ sizeLine := by
    rw [← Paired.length r1, sizeLine_eq]; skip
    omega
  refine wpAny_call (PySem.HandSPX.call_own F.excBase_OverflowError (fun _ => rfl) (I1.kIn _ _ hC) (PySem.W.looks_findIn I1.kIn iC) (fun self => PySem.W.bind_fn I1.kIn self tI) few
    (codeAny_mono (F1.run _ X.stack _ _ ⟨Value.ref (hp.objs.size + 1) :: us, []⟩ (Value.ref (hp.objs.size + 1) :: (us ++ [])) _ _ (fun _ _ _ => False) (hr.make C us []) (I2.env0.make C us []) (by
      have z := hb ⟨(hp.push (PySem.W.kdv_tup us)).push (PySem.HandSPX.excO C hp.objs.size), g, dr, tk, os⟩ (Value.ref (hp.objs.size + 1) :: us) I2.kIn hl
      exact z) r2 hq) fun r s' z => ?_))
  cases r with
  | error er => exact hx pins σ _ _ er s' I2 z
  | ok fl =>
    cases fl with
    | ret u =>
      obtain ⟨v, H2, os2, bare2, un2, hok2, rv, ev, d, fs, ea, ed, hd1, q2⟩ := z
      subst ev
      obtain ⟨h2, g2, d2, t2, os'⟩ := s'; skip
      exact ⟨rv, mk_end (raises_own T.exC T.tyC) I1 sz kk un2 hok2 os2 bare2 ea ed hd1 q2⟩
    | next => exact False.elim z
    | brk => exact False.elim z
    | cont => exact False.elim z
end
end Pl

namespace Pl
open L2 PySem PySem.Spec PyProof.Rows PySem.W
/-! ### deeds in their order -/
theorem ordP_total (a b : Str × Int) : (ordP a b || ordP b a) = true := by
  rw [Bool.or_eq_true]
  exact (sortLe_total (PyProof.Rows.listOrd PyProof.Rows.itemOrd) false fun b : Str × Int => keyToks (encP b)).total a b
theorem ordP_trans : ∀ a b c : Str × Int, ordP a b = true → ordP b c = true → ordP a c = true := (sortLe_total (PyProof.Rows.listOrd PyProof.Rows.itemOrd) false fun b : Str × Int => keyToks (encP b)).trans
theorem ordP_le {a b : Str × Int} (h : ordP a b = true) : a.1.cps.toList ≤ b.1.cps.toList := by
  have h : (!dataLt (encP b) (encP a)) = true := h
  unfold encP at h
  rw [dataLt_pair (by simp [alike]) (by simp [alike])] at h
  by_cases e : PyData.eqv (.str b.1) (.str a.1) = true
  · have e2 : b.1 = a.1 := by simpa [PyData.eqv] using e
    rw [e2]
    exact List.le_refl _
  · rw [if_neg e, dataLt_str] at h
    simpa using h
theorem perm_prs {l : List (Str × Int)} {ps : List PyData} (h : ps.all isPair = true) (e : ps.map prOf = l) : l.map encP = ps := by
  subst e
  rw [List.map_map]
  refine (List.map_congr_left fun d hd => ?_).trans (List.map_id' ps)
  obtain ⟨x, n, rfl⟩ := isPair_inv (List.all_eq_true.mp h d hd)
  rfl
def srtP (ps : List PyData) : List PyData := ((ps.map prOf).mergeSort ordP).map encP
theorem srtP_perm {ps : List PyData} (h : ps.all isPair = true) : (srtP ps).Perm ps := by
  have e := perm_prs h rfl
  conv => rhs; rw [← e]
  exact (List.mergeSort_perm _ _).map encP
theorem srtP_prs (ps : List PyData) : (srtP ps).map prOf = (ps.map prOf).mergeSort ordP := by
  unfold srtP
  rw [List.map_map]
  exact List.map_id' _
theorem srtP_idem (ps : List PyData) : srtP (srtP ps) = srtP ps := by
  have e : (srtP ps).map prOf = (ps.map prOf).mergeSort ordP := srtP_prs ps
  show (((srtP ps).map prOf).mergeSort ordP).map encP = _
  rw [e, List.mergeSort_of_pairwise (List.pairwise_mergeSort ordP_trans ordP_total _)]
  rfl
theorem sK_nodup {ss : List Str} : (sK ss).Nodup ↔ ss.Nodup := by
  unfold sK
  constructor
  · exact fun h => List.Pairwise.of_map _ (fun a b (n : Sum.inr a ≠ Sum.inr b) e => n (congrArg _ e)) h
  · exact fun h => List.Pairwise.map _ (fun a b (n : a ≠ b) e => n (Sum.inr.inj e)) h
theorem arePairs_iff {ps : List PyData} : arePairs (.tuple ps) = true ↔ ps.length ≤ 4 ∧ ps.all isPair = true ∧ (ps.map nmOf).Nodup := by
  show (decide (ps.length ≤ 4) && ps.all isPair && decide ((dst (sK (ps.map nmOf))).length = ps.length)) = true ↔ _
  have e2 : (sK (ps.map nmOf)).length = ps.length := by
    unfold sK
    rw [List.length_map, List.length_map]
  rw [Bool.and_eq_true, Bool.and_eq_true, decide_eq_true_eq, decide_eq_true_eq, ← e2, dst_nodup, sK_nodup, e2, and_assoc]
/-- put or another -/
theorem deed_cases {d : PyData} (h : isDeed d = true) : (∃ (mo k : Int) (ps : List PyData), d = .tuple [.int mo, .str "put", .int k, .tuple ps] ∧ 1 ≤ mo ∧ mo ≤ 999 ∧ 0 ≤ k ∧ k ≤ 9 ∧ ps.length ≤ 4 ∧ ps.all isPair = true ∧ (ps.map nmOf).Nodup ∧ inOrd d = .tuple [.int mo, .str "put", .int k, .tuple (srtP ps)]) ∨
    ∃ (mo : Int) (x : Str) (p : PyData) (r : List PyData), d = .tuple (.int mo :: .str x :: p :: r) ∧ 1 ≤ mo ∧ mo ≤ 999 ∧ x ≠ "put" ∧ inOrd d = d ∧ ∀ e ∈ p :: r, (∃ i : Int, e = .int i) ∨ ∃ y : Str, e = .str y := by
  obtain ⟨m, x, p, r, f, rfl, hm, hf, hp⟩ := isDeed_inv h
  obtain ⟨mo, rfl⟩ := isNum_inv (d := m) (by cases m <;> first | rfl | cases hm)
  have hm : (decide (1 ≤ mo) && decide (mo ≤ 999)) = true := hm
  rw [Bool.and_eq_true, decide_eq_true_eq, decide_eq_true_eq] at hm
  have name : ∀ {d : PyData}, isName d = true → ∃ y : Str, d = .str y := fun {d} h => by
    cases d <;> first | exact ⟨_, rfl⟩ | cases h
  have num : ∀ {d : PyData} {lo hi : Int}, within d lo hi = true → ∃ i : Int, d = .int i ∧ lo ≤ i ∧ i ≤ hi := fun {d lo hi} h => by
    cases d with
    | int i =>
      have h : (decide (lo ≤ i) && decide (i ≤ hi)) = true := h
      rw [Bool.and_eq_true, decide_eq_true_eq, decide_eq_true_eq] at h
      exact ⟨i, rfl, h.1, h.2⟩
    | _ => cases h
  by_cases e : x = "put"
  · subst e
    rw [form_put] at hf
    cases hf
    match r, hp with
    | [q], hp =>
      have hp : (within p 0 9 && arePairs q) = true := hp
      rw [Bool.and_eq_true] at hp
      obtain ⟨k, rfl, k0, k9⟩ := num hp.1
      cases q with
      | tuple ps =>
        obtain ⟨a, b, c⟩ := arePairs_iff.mp hp.2
        exact .inl ⟨mo, k, ps, rfl, hm.1, hm.2, k0, k9, a, b, c, (if_pos (show word (.tuple [.int mo, .str "put", .int k, .tuple ps]) = "put" from rfl)).trans rfl⟩
      | _ => cases hp.2
    | [], hp => cases hp
    | _ :: _ :: _, hp => cases hp
  · refine .inr ⟨mo, x, p, r, rfl, hm.1, hm.2, e, if_neg (show ¬ word (.tuple (.int mo :: .str x :: p :: r)) = "put" from e), ?_⟩
    unfold formP at hf
    rw [if_neg e] at hf
    have two : ∀ {g h : PyData → Bool}, f2 g h (p :: r) = true → ∃ q, r = [q] ∧ g p = true ∧ h q = true := fun {g h'} z => by
      match r, z with
      | [q], z =>
        have z : (g p && h' q) = true := z
        rw [Bool.and_eq_true] at z
        exact ⟨q, rfl, z.1, z.2⟩
      | [], z => cases z
      | _ :: _ :: _, z => cases z
    have one : ∀ {g : PyData → Bool}, f1 g (p :: r) = true → r = [] ∧ g p = true := fun {g} z => by
      match r, z with
      | [], z => exact ⟨rfl, z⟩
      | _ :: _, z => cases z
    have mem1 : ∀ {e : PyData}, r = [] → e ∈ p :: r → e = p := fun h m => by
      subst h
      exact List.mem_singleton.mp m
    split at hf
    · cases hf
      obtain ⟨rfl, h1⟩ := one hp
      obtain ⟨i, rfl, _⟩ := num h1
      exact fun e he => .inl ⟨i, List.mem_singleton.mp he⟩
    · split at hf
      · cases hf
        obtain ⟨q, rfl, h1, h2⟩ := two hp
        obtain ⟨y, rfl⟩ := name h1
        obtain ⟨i, rfl, _⟩ := num h2
        intro e he
        rcases List.mem_cons.mp he with rfl | he; skip
        · exact .inr ⟨_, rfl⟩
        · exact .inl ⟨_, List.mem_singleton.mp he⟩
      · split at hf
        · cases hf
          obtain ⟨rfl, h1⟩ := one hp
          obtain ⟨y, rfl⟩ := name h1
          exact fun e he => .inr ⟨_, List.mem_singleton.mp he⟩
        · split at hf
          · cases hf
            obtain ⟨q, rfl, h1, h2⟩ := two hp
            obtain ⟨y, rfl⟩ := name h1
            obtain ⟨y2, rfl⟩ := name h2
            intro e he
            rcases List.mem_cons.mp he with rfl | he; skip
            · exact .inr ⟨_, rfl⟩
            · exact .inr ⟨_, List.mem_singleton.mp he⟩
          · cases hf
def momD : PyData → Int
  | .tuple (.int i :: _) => i
  | _ => 0
theorem momD_ord {d : PyData} (h : isDeed d = true) : momD (inOrd d) = momD d := by
  rcases deed_cases h with ⟨mo, k, ps, rfl, _, _, _, _, _, _, _, e⟩ | ⟨mo, x, p, r, rfl, _, _, _, e, _⟩
  · rw [e]
    rfl
  · rw [e]
theorem deed_ord {d : PyData} (h : isDeed d = true) : isDeed (inOrd d) = true := by
  rcases deed_cases h with ⟨mo, k, ps, rfl, m0, m1, k0, k9, l4, ap, nd, e⟩ | ⟨mo, x, p, r, rfl, _, _, _, e, _⟩
  · rw [e]
    have pm := srtP_perm ap
    refine deed_of m0 m1 form_put ?_
    show (within (.int k) 0 9 && arePairs (.tuple (srtP ps))) = true
    rw [within_of k0 k9, arePairs_iff.mpr ⟨by rw [pm.length_eq]; exact l4, List.all_eq_true.mpr fun d hd => List.all_eq_true.mp ap d (pm.mem_iff.mp hd), (pm.map nmOf).nodup_iff.mpr nd⟩]
    rfl
  · rw [e]
    exact h
theorem ord_idem {d : PyData} (h : isDeed d = true) : inOrd (inOrd d) = inOrd d := by
  rcases deed_cases h with ⟨mo, k, ps, rfl, m0, m1, k0, k9, l4, ap, nd, e⟩ | ⟨mo, x, p, r, rfl, _, _, _, e, _⟩
  · rw [e]
    show (if word (.tuple [.int mo, .str "put", .int k, .tuple (srtP ps)]) = "put" then inOrd4 (.tuple [.int mo, .str "put", .int k, .tuple (srtP ps)]) else _) = _
    refine (if_pos (show word (.tuple [.int mo, .str "put", .int k, .tuple (srtP ps)]) = "put" from rfl)).trans ?_
    show PyData.tuple [.int mo, .str "put", .int k, .tuple (srtP (srtP ps))] = _
    rw [srtP_idem]
  · rw [e, e]
/-! ### without lists and dicts -/
mutual
def noLD : PyData → Bool
  | .none | .bool _ | .int _ | .str _ => (true)
  | .list _ | .dict _ => false
  | .tuple xs => noLDs xs
def noLDs : List PyData → Bool
  | [] => true
  | x :: xs => noLD x && noLDs xs
end
theorem noLDs_of : ∀ {ds : List PyData}, (∀ d ∈ ds, noLD d = true) → noLDs ds = true
  | [], _ => by simp only [noLDs]
  | d :: ds, h => by simp only [noLDs, h d List.mem_cons_self, noLDs_of fun e he => h e (List.mem_cons_of_mem _ he), Bool.and_self]
theorem noLD_deed {d : PyData} (h : isDeed d = true) : noLD d = true := by
  rcases deed_cases h with ⟨mo, k, ps, rfl, m0, m1, k0, k9, l4, ap, nd, e⟩ | ⟨mo, x, p, r, rfl, _, _, _, e, a⟩
  · have : noLDs ps = true := noLDs_of fun d hd => by
      obtain ⟨x, n, rfl⟩ := isPair_inv (List.all_eq_true.mp ap d hd)
      simp [noLD, noLDs]
    simp [noLD, noLDs, this]
  · have : noLDs (p :: r) = true := noLDs_of fun d hd => by
      rcases a d hd with ⟨i, rfl⟩ | ⟨y, rfl⟩ <;> simp [noLD]
    simp only [noLD, noLDs] at this ⊢
    simp [this]
section
variable {m m' : Bool} {z z' : Addr} {H : Hp}
theorem TupAt.ne_z {k : Bool} {a : Addr} {xs ys : List V} (h : TupAt H k a xs) (hz : H z = some (.lst ys)) : a ≠ z := fun e => by
  subst e
  cases h with
  | frz h d => rw [hz] at h; cases h
  | big h l => rw [hz] at h; cases h
  | any h => rw [hz] at h; cases h
mutual
theorem Dv.re {ys : List V} (hz : H z = some (.lst ys)) : ∀ (k : Bool) (d : PyData) (v : V), noLD d = true → Dv m' z' H k v d → Dv m z H k v d
  | _, .none, _, _, h => by cases h; exact .non
  | _, .bool _, _, _, h => by cases h; exact .bl _
  | _, .int _, _, _, h => by cases h; exact .int _
  | _, .str _, _, _, h => by cases h; exact .str _
  | _, .list ds, _, n, h => by simp [noLD] at n
  | _, .dict _, _, n, h => by simp [noLD] at n
  | _, .tuple ds, _, n, h => by
    cases h with
    | tup ne h t => exact .tup (h.ne_z hz) h (DvL.re hz _ ds _ (by simpa [noLD] using n) t)
theorem DvL.re {ys : List V} (hz : H z = some (.lst ys)) : ∀ (k : Bool) (ds : List PyData) (vs : List V), noLDs ds = true → DvL m' z' H k vs ds → DvL m z H k vs ds
  | _, [], _, _, h => by cases h; exact .nil
  | _, d :: ds, _, n, h => by
    cases h with
    | cons a t =>
      simp only [noLDs, Bool.and_eq_true] at n
      exact .cons (Dv.re hz _ d _ n.1 a) (DvL.re hz _ ds _ n.2 t)
end
end
theorem perm_facts {ds es : List PyData} (p : ds.Perm es) : lfA ds = lfA es ∧ PyData.weightAll ds = PyData.weightAll es ∧ PyData.depthAll ds = PyData.depthAll es := by
  induction p with
  | nil => exact ⟨rfl, rfl, rfl⟩
  | cons x _ ih =>
    obtain ⟨a, b, c⟩ := ih
    refine ⟨by simp only [lfA, a], by simp only [PyData.weightAll, b], by simp only [PyData.depthAll, c]⟩
  | swap x y l =>
    refine ⟨by simp only [lfA]; rw [← Bool.and_assoc, ← Bool.and_assoc, Bool.and_comm (lf y)], by simp only [PyData.weightAll]; omega, by simp only [PyData.depthAll]; omega⟩
  | trans _ _ ih1 ih2 => exact ⟨ih1.1.trans ih2.1, ih1.2.1.trans ih2.2.1, ih1.2.2.trans ih2.2.2⟩
theorem bd_ord {W D : Nat} {d : PyData} (h : isDeed d = true) (b : Bd W D d) : Bd W D (inOrd d) := by
  rcases deed_cases h with ⟨mo, k, ps, rfl, m0, m1, k0, k9, l4, ap, nd, e⟩ | ⟨mo, x, p, r, rfl, _, _, _, e, a⟩
  · rw [e]
    obtain ⟨p1, p2, p3⟩ := perm_facts (srtP_perm ap)
    obtain ⟨b1, b2, b3⟩ := b
    refine ⟨?_, ?_, ?_⟩
    · simp only [lf, lfA] at b1 ⊢
      rw [p1]
      exact b1
    · simp only [PyData.weight, PyData.weightAll] at b2 ⊢
      rw [p2]
      exact b2
    · simp only [PyData.depth, PyData.depthAll] at b3 ⊢
      rw [p3]
      exact b3
  · rw [e]
    exact b
mutual
theorem lay_of : ∀ d : PyData, lf d = true → noLD d = true → d.canLay0 = true
  | .none, _, _ => by simp only [PyData.canLay0]
  | .bool _, _, _ => by simp only [PyData.canLay0]
  | .int _, _, _ => by simp only [PyData.canLay0]
  | .str x, h, _ => by
    simp only [lf, decide_eq_true_eq] at h
    simp only [PyData.canLay0]
    exact (str_props h).1
  | .list _, _, n => by simp [noLD] at n
  | .dict _, _, n => by simp [noLD] at n
  | .tuple ds, h, n => by
    simp only [PyData.canLay0]
    exact lays_of ds (by simpa only [lf] using h) (by simpa only [noLD] using n)
theorem lays_of : ∀ ds : List PyData, lfA ds = true → noLDs ds = true → PyData.canLayAll0 ds = true
  | [], _, _ => by simp only [PyData.canLayAll0]
  | d :: ds, h, n => by
    simp only [lfA, Bool.and_eq_true] at h
    simp only [noLDs, Bool.and_eq_true] at n
    simp only [PyData.canLayAll0, lay_of d h.1 n.1, lays_of ds h.2 n.2, Bool.and_self]
end
theorem bd_okL {W D : Nat} {d : PyData} (h : isDeed d = true) (b : Bd W D d) (l : D ≤ 10) : okL d := ⟨lay_of d b.l (noLD_deed h), Nat.le_trans b.p l⟩
end Pl

namespace Pl
open L2 PySem PySem.Spec PyProof.Rows
/-- as FnOk, at places where nothing is being written out -/
structure FnG (P : Program) (w : World) (K : PySem.W.Frag) (mg : Str → Option Value) (base : Heap) (k : Nat) (f : Addr) (fd : FuncData) (ps : List Str) (sp : Sp) : Prop where
  len : ∀ us H Q E, sp us H Q E → us.length = ps.length
  run : ∀ (A : Around) (outer : List Env) (s : Shared) (H : Hp) (args : Args) (us : List Value) (vs : List V) (Q : VK) (E : XK), A.guards = some [] → Room k A → Env0 P w K mg base A outer s H → BindsTo s fd args (ps.zip us) → Vals vs us → sp vs H Q E →
    codeAny (model P w) A (.call (.ref f) args) (CR CX0 outer P w H s Q E) s
section
variable {P : Program} {K : PySem.W.Frag} {w : World} {base : Heap} {mg : Str → Option Value}
theorem okG0 {x qual : Str} {st : Stmt} {f : Addr} {N ps : List Str} {k : Nat} {sp : Sp} {oc kV doc pm cdv ct : Value} {od an : Option Addr} {osl : Array (Option Value)} (lk : K.lookup f = some ⟨oc, od, .func (PySem.W.fnOf x qual (defArgs st) (defBody st) (defScope st) .none kV doc pm an cdv ct), osl⟩) (hcd : PySem.W.codeIn K cdv qual = true)
    (S : FnScope N ps (defScope st)) (len : ∀ vs H Q E, sp vs H Q E → vs.length = ps.length)
    (walk : ∀ (A : Around) (outer : List Env) (s : Shared) (H : Hp) (vs : List V) (Q : VK) (E : XK), A.guards = some [] → Room k (A.deeper (envOfC qual (defScope st) s.heap.objs.size f cdv)) → sp vs H Q E →
      ∃ t, PSs (cxOf CX0 P w K mg base N qual (defScope st) f cdv A outer s H E).nox (defBody st) t ∧ t { nx := fun _ H' => Q .non H', rt := Q } (start N vs) H) : FnG P w K mg base (k + 1) f (PySem.W.fnOf x qual (defArgs st) (defBody st) (defScope st) .none kV doc pm an cdv ct) ps sp := by
  refine ⟨len, ?_⟩
  intro A outer s H args us vs Q E hg room env bind rel want
  have kin : K.In s.heap := env.mod.kin.keeps fun b o e => (env.bs b o e).1
  have nol : s.heap.NoLimit := env.mod.nolimit.keeps fun b o e => (env.bs b o e).1
  obtain ⟨t, ht, goal⟩ := walk A outer s H vs Q E hg (room.deeper _) want
  refine codeAny_call_function room.depth (kin _ _ lk) rfl S.co S.gen rfl (PySem.W.codeRec_of kin hcd) (bind _ _ _ _ (wpAny_newFunctionEnv_cells S.kind (fun y hy => ?_) fun env' ee s1 made => ?_))
  · rcases S.par y.1 (List.of_mem_zip (a := y.1) (b := y.2) hy).1 with h | h
    · exact .inl h
    · exact .inr ⟨h, PySem.W.cellsFrom_some _ _ _ (.inl h)⟩
  · subst ee
    refine ⟨nol.keeps made.toInCall.keep, codeAny_func (wpAny_mono (ht.nox.run [] s1 (start N vs) H _ (inv_start S room.hd env (len _ _ _ _ want) rel made) goal) ?_ fun _ _ h => h)⟩
    intro fl s2 h
    match fl, h with
    | .ret u, ⟨v, σ2, H2, J, rv, q⟩ => exact ⟨v, H2, J.os, J.bare, J.base, J.hok, rv, q⟩
    | .next, ⟨σ2, H2, J, q⟩ => exact ⟨V.non, H2, J.os, J.bare, J.base, J.hok, rfl, q⟩
    | .brk, ⟨_, _, _, q⟩ => exact q.elim
    | .cont, ⟨_, _, _, q⟩ => exact q.elim
theorem okG {x qual : Str} {st : Stmt} {f : Addr} {fd : FuncData} {N ps : List Str} {k : Nat} {sp : Sp} (F : Fun K x qual st f fd) (S : FnScope N ps (defScope st)) (len : ∀ vs H Q E, sp vs H Q E → vs.length = ps.length)
    (walk : ∀ (cdv : Value) (A : Around) (outer : List Env) (s : Shared) (H : Hp) (vs : List V) (Q : VK) (E : XK), A.guards = some [] → Room k (A.deeper (envOfC qual (defScope st) s.heap.objs.size f cdv)) → sp vs H Q E →
      ∃ t, PSs (cxOf CX0 P w K mg base N qual (defScope st) f cdv A outer s H E).nox (defBody st) t ∧ t { nx := fun _ H' => Q .non H', rt := Q } (start N vs) H) : FnG P w K mg base (k + 1) f fd ps sp := by
  obtain ⟨oc, od, kV, doc, pm, an, cdv, ct, osl, rfl, lk, hcd⟩ := F.ex; skip
  exact okG0 lk hcd S len fun A outer s H vs Q E => walk cdv A outer s H vs Q E
/-- a def whose code object is known -/
structure FunC (K : PySem.W.Frag) (x qual : Str) (st : Stmt) (f c : Addr) (fd : FuncData) : Prop where
  ex : ∃ (oc : Value) (od : Option Addr) (kV doc pm : Value) (an : Option Addr) (ct : Value) (osl : Array (Option Value)),
    fd = PySem.W.fnOf x qual (defArgs st) (defBody st) (defScope st) .none kV doc pm an (.ref c) ct ∧ K.lookup f = some ⟨oc, od, .func fd, osl⟩ ∧ PySem.W.codeIn K (.ref c) qual = true
theorem okC {x qual : Str} {st : Stmt} {f c : Addr} {fd : FuncData} {N ps : List Str} {k : Nat} {sp : Sp} (F : FunC K x qual st f c fd) (S : FnScope N ps (defScope st)) (len : ∀ vs H Q E, sp vs H Q E → vs.length = ps.length)
    (walk : ∀ (A : Around) (outer : List Env) (s : Shared) (H : Hp) (vs : List V) (Q : VK) (E : XK), A.guards = some [] → Room k (A.deeper (envOfC qual (defScope st) s.heap.objs.size f (.ref c))) → sp vs H Q E →
      ∃ t, PSs (cxOf CX0 P w K mg base N qual (defScope st) f (.ref c) A outer s H E).nox (defBody st) t ∧ t { nx := fun _ H' => Q .non H', rt := Q } (start N vs) H) : FnG P w K mg base (k + 1) f fd ps sp := by
  obtain ⟨oc, od, kV, doc, pm, an, ct, osl, rfl, lk, hcd⟩ := F.ex
  exact okG0 lk hcd S len walk
end
section
variable {X : Cx} {k i : Nat} {f : Addr} {fd : FuncData} {ps : List Str} {sp : Sp} {x : Str} {p pos : Pos} {e : Expr} {es : List Expr} {t : TA}
def tCallG (sp : Sp) (t : TA) : TE := fun σ H Q => t σ H fun vs H1 => sp vs H1 Q (fun _ _ _ => True)
theorem pe_callG (F : FnG X.prog X.w X.K X.mg X.base k f fd ps sp) (hgd : X.A.guards = some []) (hr : Room k X.A) (hg : Gl X x) (hm : X.mg x = some (.ref f)) (hk : PySem.W.keepIn X.K (.ref f) = true) (hb : Binds X.K fd ps []) (ha : PA X (e :: es) t)
    (hdb : ((x == ("__debug__" : Str)) = false) := by decide) (he : starEach (e :: es) X.env = (false, eval e X.env) :: starEach es X.env := by rfl) (hpl : (backTo pos (starEach es X.env)).any (·.1) = false := by rfl) :
    PE X (.Call (.Name x p) (e :: es) [] pos) (tCallG sp t) := by
  constructor
  intro pins s σ H Q I h
  refine wpAny_Call_Name_kw (ld_glob I hg hm (PySem.W.callWith_K (h₀ := X.base) I.ok.mod.kin hk (thn (ha.run pos pins s σ H _ I h) ?_) he hpl) hdb)
  rintro us s1 ⟨vs, H1, I1, r, q⟩
  refine ⟨I1.kIn, ?_⟩
  have hl : us.length = ps.length := r.length.symm.trans (F.len _ _ _ _ q)
  have b := hb s1 us I1.kIn (by rw [List.append_nil]; exact hl)
  rw [List.append_nil] at b
  refine wpAny_call (codeAny_mono (F.run X.A X.stack s1 H1 ⟨us, []⟩ us vs Q _ hgd hr I1.env0 b r q) ?_)
  intro r s2 hq
  match r, hq with
  | .error _, hq => exact False.elim hq
  | .ok (.ret u), hq => exact I1.after hq
  | .ok .next, hq => exact False.elim hq
  | .ok .brk, hq => exact False.elim hq
  | .ok .cont, hq => exact False.elim hq
/-- a def that may raise, held by a local name -/
structure HeldX (P : Program) (w : World) (K : PySem.W.Frag) (mg : Str → Option Value) (base : Heap) (k : Nat) (f : Addr) (sp : Sp) : Prop where
  ex : ∃ (fd : FuncData) (ps : List Str), FnOk P w K mg base (L2.CX P w) k f fd ps sp ∧ PySem.W.keepIn K (.ref f) = true ∧ Binds K fd ps []
def tCallHX (Hd : Addr → Sp → Prop) (i : Nat) (E : L2.St → XK) (t : TA) : TE := fun σ H Q => ∃ f sp, σ[i]? = some (some (.ref f)) ∧ Hd f sp ∧ t σ H fun vs H1 => sp vs H1 Q (E σ)
theorem pe_callHX {E : L2.St → XK} (hr : Room k X.A) (hN : X.N[i]? = some x) (hv : Vis X.env.scope x) (hx : ∀ σ, PassesAt (L2.CX X.prog X.w) X σ (E σ)) (ha : PA X (e :: es) t) (hdb : (x == ("__debug__" : Str)) = false := by decide) (hcd : (x == ("__classdict__" : Str)) = false := by decide)
    (he : (starEach (e :: es) X.env = (false, eval e X.env) :: starEach es X.env) := by rfl) (hpl : ((backTo pos (starEach es X.env)).any (·.1) = false) := by rfl) :
    PE X (.Call (.Name x p) (e :: es) [] pos) (tCallHX (HeldX X.prog X.w X.K X.mg X.base k) i E t) := by
  constructor
  rintro pins s σ H Q I ⟨f, sp, hs, hH, ht⟩
  obtain ⟨fd, ps, F, hk, hb⟩ := hH.ex
  refine wpAny_Call_Name_kw (thn ((pe_var (pos := p) hN hv hdb hcd).run pins s σ H (fun v H1 => v = .ref f ∧ H1 = H) I ⟨.ref f, hs, rfl, rfl⟩) ?_)
  rintro u s1 ⟨v, H1, I1, r1, rfl, rfl⟩
  cases r1
  exact PySem.W.callWith_K (h₀ := X.base) I.ok.mod.kin hk (thn (ha.run pos pins s1 σ _ _ I1 ht) fun us s2 ⟨vs, H2, I2, r, q⟩ => ⟨I2.kIn, run_fnS F hr hb (hx σ) I2 r q⟩) he hpl
/-- isinstance(the caught error, its own class) -/
def rIsX (a : Addr) (cls : Value) (d : Option Addr) (C : Addr) : List V → Hp → VK → Prop := fun xs H Q => xs = [.ref a, .ref C] ∧ cls = .ref C ∧ (∃ (dd : Addr) (fs : List (Str × V)), d = some dd ∧ H dd = some (.xd fs)) ∧ Q (.bl true) H
theorem call_isX {a C : Addr} {oe : Obj} {cls : Value} {d : Option Addr} {pn : List (Addr × Obj)} (hz : Zc cls d oe) (hf : ∃ vs, oe.data = .fields vs) : CallR (X.suite a ((a, oe) :: pn)) (.builtin "isinstance") (rIsX a cls d C) := by
  rintro pins s σ H xs us Q I r ⟨rfl, rfl, ⟨dd, fs, rfl, hd⟩, q⟩
  obtain ⟨u1, u2, rfl, r1, r2⟩ := vals2 r; skip
  obtain rfl : u1 = Value.ref a := r1
  obtain rfl : u2 = Value.ref C := r2
  obtain ⟨ha, _⟩ := I.pin (a, oe) (List.mem_append_left _ List.mem_cons_self)
  obtain ⟨vs, hv⟩ := hf
  obtain ⟨mA, hns, hr⟩ : ObjOk X.prog X.w H s.heap dd (.xd fs) := I.hok dd _ hd
  obtain ⟨od, ho, hl⟩ := lookIn_ns hns; skip
  have J : PySem.W.InstAt s.heap a oe C (some od) := ⟨ha, hz.1, by unfold PySem.W.notCls; rw [hv] <;> rfl, by rw [hz.2]; exact ho⟩
  refine call_isinstance (S := fun _ R s2 => s2 = s ∧ R (.ok (.ret (.bool true))) s2) ?_ ⟨rfl, .bl true, H, I, rfl, q⟩
  rintro prog w A R s2 ⟨rfl, hR⟩
  refine isinstance_outer ?_ (fun z => by cases z)
  unfold Builtin.«isinstance.nested»; skip
  refine wpAny_bind ((J.type (M := model prog w)).at ?_)
  rw [if_pos (beq_self_eq_true _)]; skip
  first
    | exact wpAny_bind (wpAny_rule (hR))
    | exact wpAny_bind (wpAny_rule (wpAny_pure hR))
    | exact wpAny_pure hR
end
end Pl

namespace Pl
open L2 PySem PySem.Spec PyProof.Rows
abbrev SuT := Value × (Addr → Value → Option Addr → TS)
/-- what clauses «except x as n» (all of one name n, slot i) wish of an exception, one behind another -/
def wAll (K : PySem.W.Frag) (i : Nat) (Wo : WX) (D : Ends) : List SuT → WX
  | [] => Wo
  | q :: r => wAs K q.1 i q.2 (wAll K i Wo D r) D
/-- the clauses, each with its class and its suite -/
inductive Cls (X : Cx) (n : Str) : List ExceptHandler → List SuT → Prop
  | nil : Cls X n [] []
  | cons {x : Str} {c : Value} {ts : Addr → Value → Option Addr → TS} {b1 : Stmt} {bs : List Stmt} {p1 p2 : Pos} {hs : List ExceptHandler} {l : List SuT} (names : Names X x c)
      (suite : ∀ (a : Addr) (o : Obj) (k : Value) (d : Option Addr) (pn : List (Addr × Obj)), Zc k d o → (∃ vs, o.data = .fields vs) → PSs (X.suite a ((a, o) :: pn)) (b1 :: bs) (ts a k d)) (rest : Cls X n hs l) :
      Cls X n (.ExceptHandler (some (.Name x p1)) (some n) (b1 :: bs) p2 :: hs) ((c, ts) :: l)
section
variable {X : Cx} {n : Str} {i : Nat} {Wo : WX} {D : Ends} {pins : List (Addr × Obj)} {H : Hp} {σ : L2.St} {s0 s1 : Shared}
/-- an exception of the class k, dict d, at a, on its way past the clauses -/
structure Onway (X : Cx) (pins : List (Addr × Obj)) (σ : L2.St) (H : Hp) (s0 s1 : Shared) (B : Heap) (a : Addr) (k : Value) (d : Option Addr) (g : Heap) : Prop where
  inv : Inv X pins σ H s0
  fly : HandSPX.FlyingZ B (X.env :: X.outer) a (Zc k d) g
  nb : ∀ b o, s0.heap.get? b = some o → b ∉ frs X.stack → B.get? b = some o
  up : s0.heap.UpToSlots g
  new : H a = none
  os : s1.os = s0.os
  bare : AllBare s1.gens
theorem Onway.now {B g : Heap} {a : Addr} {k : Value} {d : Option Addr} (w : Onway X pins σ H s0 s1 B a k d g) : Inv X pins σ H { s1 with heap := g } := w.inv.landed w.nb w.fly.1 w.up w.os w.bare
theorem Onway.far {B g : Heap} {a : Addr} {k : Value} {d : Option Addr} (w : Onway X pins σ H s0 s1 B a k d g) {o : Obj} {vs : Array Value} (ho : g.get? a = some o) (hd : o.data = .fields vs) : a ∉ frs (X.env :: X.outer) := by
  intro m
  obtain ⟨_, o2, e2, nf⟩ := w.fly.2.2.1.mem m
  cases ho.symm.trans e2
  exact nf _ hd
theorem clauses (hs : X.stack = X.env :: X.outer) (hf : X.env.frame = some X.env.locals) (nd : X.N.Nodup) (hi : X.N[i]? = some n) (hn : X.env.kindOf n = some .local) (tk : Takes X Wo) {B : Heap} {a : Addr} {k : Value} {d : Option Addr} {hds : List ExceptHandler} {l : List SuT} (cl : Cls X n hds l) :
    ∀ g : Heap, Onway X pins σ H s0 s1 B a k d g → wAll X.K i Wo D l k d σ H → wpAny (model X.prog X.w) X.A (handleBy (.ref a) X.env hds) (SP X pins D) X.xe { s1 with heap := g } := by
  induction cl with
  | nil =>
    intro g w hw
    refine wpAny_handleBy_nil ?_
    obtain ⟨_, _, _, o, vs, T, _, _, ho, _, hd, h1, _⟩ := id w.fly
    have last : wpAny (model X.prog X.w) X.A (setFlight (.ref a) X.env.frame) (fun _ s4 => wpAny (model X.prog X.w) X.A (throw (.ref a) : Sem Flow) (SP X pins D) X.xe s4) X.xe { s1 with heap := g } := by
      rw [hf]
      exact HandSPX.setFlight_upZ w.fly fun h4 held more => wpAny_throw (tk _ _ ⟨a, B, s0, pins, σ, H, k, d, rfl, w.inv, w.nb, w.up.trans more, .inr (.inr (hs ▸ held)), w.new, w.os, w.bare, hw⟩)
    unfold PySem.passOn
    refine wpAny_bind (wpAny_field ho hd h1 ?_)
    rw [if_neg (by simp : ¬ ((Value.ref T == Value.none) = true))]
    first | exact wpAny_bind last | exact wpAny_bind (wpAny_pure (wpAny_bind last))
  | @cons x c ts b1 bs p1 p2 hds2 l2 names suite rest ih =>
    intro g w hw
    obtain ⟨b, hb, yes, no⟩ := hw
    obtain ⟨o, vs, ho, hz, hd⟩ := w.fly.there
    have notL : a ≠ X.env.locals := fun e => w.far ho hd (List.mem_filterMap.mpr ⟨X.env, List.mem_cons_self, by rw [hf, e]⟩)
    have notF : a ∉ X.fs := fun m => by
      obtain ⟨e, he, q⟩ := List.mem_filterMap.mp m
      exact w.far ho hd (List.mem_filterMap.mpr ⟨e, List.mem_cons_of_mem _ he, q⟩)
    refine wpAny_handleBy_cons (codeAny_handlers_test ?_) (fun q => by cases q)
    have look : PySem.W.Looks (model X.prog X.w) g (typeOf (.ref a)) k := fun A Q E s kp q => wpAny_typeOf_ref (kp _ _ ho) (hz.1 ▸ q)
    have told := PySem.W.exm_one (M := model X.prog X.w) w.now.kIn look hb
    have inS := w.now.suite ho hd w.new notL notF
    have asked : ∀ {Q E : Value → Shared → Prop}, Q c { s1 with heap := g } → wpAny (model X.prog X.w) (X.A.mark (some (.ref a))) (eval (.Name x p1) X.env) Q E { s1 with heap := g } := fun {Q E} q => by
      rcases names with ⟨gl, db, m | ⟨m, v, nn⟩⟩
      · exact ld_glob (X := X.suite a ((a, o) :: (X.pn ++ pins))) inS gl m q db
      · exact ld_blt (X := X.suite a ((a, o) :: (X.pn ++ pins))) inS gl m v q nn db
    refine asked (told.here ?_)
    cases b with
    | false => exact ih g w (no rfl)
    | true =>
      refine codeAny_handlers_suite_as (HandSPX.lands_againZ w.fly fun g4 fly4 up4 => ?_)
      have w4 : Onway X pins σ H s0 s1 B a k d g4 := ⟨w.inv, fly4, w.nb, w.up.trans up4, w.new, w.os, w.bare⟩
      obtain ⟨o4, vs4, ho4, hz4, hd4⟩ := w4.fly.there
      refine store_ok (X := X.suite a ((a, o4) :: (X.pn ++ pins))) (v := .ref a) (w4.now.suite ho4 hd4 w4.new notL notF) nd hi (.inl hn) rfl (fun s5 I5 => ?_) (.inr hn)
      refine wpAny_mono ((suite a o4 k d (X.pn ++ pins) hz4 ⟨_, hd4⟩).run [] s5 _ H _ I5 (yes rfl a w4.new)) (fun f s6 hsp => ?_) (fun _ _ z => z.elim)
      have behind : ∀ {σ6 : L2.St} {H6 : Hp} {Q : Shared → Prop}, Inv (X.suite a ((a, o4) :: (X.pn ++ pins))) [] σ6 H6 s6 → (∀ s7, Inv X pins (σ6.set i none) H6 s7 → Q s7) →
          wpAny (model X.prog X.w) X.A (do bindName X.env n .none; unbindBehindTheSuite X.env n p2) (fun _ s7 => Q s7) X.xe s6 := fun {σ6 H6 Q} I6 q => gone_ok (I6.unsuite w.inv.ok) nd hi hn q
      cases f with
      | ret u =>
        obtain ⟨v, σ6, H6, I6, r, q⟩ := hsp
        exact behind I6 fun s7 I7 => ⟨_, _, _, I7, r, q⟩
      | next =>
        obtain ⟨σ6, H6, I6, q⟩ := hsp
        exact behind I6 fun s7 I7 => ⟨_, _, I7, q⟩
      | brk =>
        obtain ⟨σ6, H6, I6, q⟩ := hsp
        exact behind I6 fun s7 I7 => ⟨_, _, I7, q⟩
      | cont =>
        obtain ⟨σ6, H6, I6, q⟩ := hsp
        exact behind I6 fun s7 I7 => ⟨_, _, I7, q⟩
/-- try: body / except x as n: .. / except y as n: .. -/
theorem ps_try_all {body : List Stmt} {h0 : ExceptHandler} {hds : List ExceptHandler} {l : List SuT} {pos : Pos} {tb : WX → TS} (hs : X.stack = X.env :: X.outer) (hf : X.env.frame = some X.env.locals) (nd : X.N.Nodup) (hi : X.N[i]? = some n) (hn : X.env.kindOf n = some .local) (tk : Takes X Wo)
    (hb : ∀ (W : WX) (pn : List (Addr × Obj)) (xe : Value → Shared → Prop), Takes (X.tr pn xe) W → PassesOwn (model X.prog X.w) X.A X.env xe → PSs (X.tr pn xe) body (tb W)) (cl : Cls X n (h0 :: hds) l) :
    PS X (.Try body (h0 :: hds) [] [] pos) (fun D σ H => tb (wAll X.K i Wo D l) D σ H) := by
  constructor
  intro pins s σ H D I h
  have ok := I.ok
  have frames : X.A.frames = some (X.env :: X.outer) := by rw [ok.frames, hs]
  refine wpAny_Try_except (wpAny_mono ((hb (wAll X.K i Wo D l) (X.pn ++ pins) (fun e sa => wpAny (model X.prog X.w) X.A (noteFrame e X.env) (fun _ sb => wpAny (model X.prog X.w) X.A (setFlight e none) (fun _ sc =>
    wpAny (model X.prog X.w) X.A (handleBy e X.env (h0 :: hds)) (SP X pins D) X.xe sc) X.xe sb) X.xe sa) (fun u s1 thrown => ?_) PassesOwn.looking).run [] s σ H D (I.toTry _) h) (fun f s1 hsp => ?_) (fun _ _ z => z))
  · obtain ⟨a, B, s0, ps, σ1, H1, k, d, rfl, I1, nb, up, sky, new, os, bare, hw⟩ := thrown
    refine Sky.land Zc.steady frames hf (hs ▸ sky) fun g fly more => ?_
    exact clauses hs hf nd hi hn tk cl g ⟨I1.ofTry ok, fly, nb, up.trans more, new, os, bare⟩ hw
  · cases f with
    | ret u =>
      obtain ⟨v, σ1, H1, I1, r, q⟩ := hsp
      exact ⟨v, σ1, H1, I1.ofTry ok, r, q⟩
    | next =>
      obtain ⟨σ1, H1, I1, q⟩ := hsp
      exact wpAny_execs_nil ⟨σ1, H1, I1.ofTry ok, q⟩
    | brk =>
      obtain ⟨σ1, H1, I1, q⟩ := hsp
      exact ⟨σ1, H1, I1.ofTry ok, q⟩
    | cont =>
      obtain ⟨σ1, H1, I1, q⟩ := hsp
      exact ⟨σ1, H1, I1.ofTry ok, q⟩
end
end Pl

namespace Pl
open L2 PySem PySem.Spec PyProof.Rows
/-- the law is entered: tables (of code objects; cs: both) stand empty, nothing is being written out -/
theorem law_callM {P : Program} {w : World} {K : PySem.W.Frag} {mg mb : Str → Option Value} {k : Nat} {fa a : Addr} {cs : List (Addr × Addr)} {fd : FuncData} {x : Str} {sp : Sp} {t : Shared} {us : List Value} {ns : List Int}
    (kin : K.In t.heap) (gns : t.heap.Ns mainGlobals mg) (bns : t.heap.Ns builtinsNs mb) (bbt : ∀ y : Str, y ≠ "__name__" → mb y = bootBuiltins y) (nol : t.heap.NoLimit) (gen : t.gens = #[])
    (tab : ∀ q ∈ cs, t.heap.get? q.2 = some { cls := .none, data := .fields #[] }) (notK : ∀ q ∈ cs, K.lookup q.2 = none) (hc : ∀ q ∈ cs, PySem.W.CodeHd t.heap q.1 q.2)
    (bmn : ∃ (bm : Addr) (ob : Obj), mg "__builtins__" = some (.ref bm) ∧ bm ≠ builtinsNs ∧ t.heap.get? bm = some ob ∧ ob.cls = .type "module" ∧ ob.dict = some builtinsNs ∧ ob.data = .plain)
    (la : t.heap.get? a = some { cls := .type "list", data := .seq us.toArray }) (nums : IntsAre us ns) (short : ns.length ≤ sizeLine) (room : Room k callerA)
    (fn : ∀ base : Heap, K.In base → base.Ns mainGlobals mg → (∀ q ∈ cs, LamX.TabB base mg q.1 q.2) → FnG P w K mg base k fa fd [x] sp) (bind : ∀ (s : Shared) (u : Value), BindsTo s fd ⟨[u], []⟩ [(x, u)])
    (want : ∀ H : Hp, (∀ q ∈ cs, H q.2 = some (.tbl #[])) → SqL K H a (ns.map V.int) → sp [.ref a] H (fun v _ => v = .bl true) fun _ _ _ => True) :
    codeAny (model P w) callerA (.call (.ref fa) ⟨[.ref a], []⟩) (fun r s2 => r = .ok (.ret (.bool true)) ∧ OldK t.heap s2.heap ∧ s2.os = t.os ∧ AllBare s2.gens) t := by
  have rel := vals_ints nums
  have count := nums.length
  have at_ : ∀ b, (∃ q ∈ cs, b = q.2) → t.heap.get? b = some { cls := .none, data := .fields #[] } := fun b ⟨q, hq, e⟩ => e ▸ tab q hq
  have aPt : ¬ ∃ q ∈ cs, a = q.2 := fun e => by
    rw [at_ a e] at la
    have z : Data.fields #[] = Data.seq us.toArray := congrArg Obj.data (Option.some.inj la)
    cases z
  have main : ∀ H : Hp, (∀ q ∈ cs, H q.2 = some (.tbl #[])) → (∀ b, H b = none ∨ (∃ q ∈ cs, b = q.2) ∨ ∃ o xs, H b = some (.frz o (.lst xs))) → SqL K H a (ns.map V.int) → HOk P w H t.heap → (∀ b, H b ≠ none → b = a ∨ ∃ q ∈ cs, b = q.2) → (H a ≠ none → K.lookup a = none) →
      codeAny (model P w) callerA (.call (.ref fa) ⟨[.ref a], []⟩) (fun r s2 => r = .ok (.ret (.bool true)) ∧ OldK t.heap s2.heap ∧ s2.os = t.os ∧ AllBare s2.gens) t := by
    intro H hPt kinds seq ok only free
    have look : ∀ {b : Addr} {o : Obj}, t.heap.get? b = some o → H b = none → (hidT t.heap H).get? b = some o := fun {b o} e n => hidT_get e n
    have off : ∀ {b : Addr} {o : Obj}, t.heap.get? b = some o → (∀ ws n, o.data ≠ .seq ws n) → o.data ≠ .fields #[] → H b = none := fun {b o} e n1 n2 => by
      cases hb : H b with
      | none => rfl
      | some u =>
        rcases only b (by rw [hb]; simp) with rfl | isT
        · rw [la] at e
          cases e
          exact absurd rfl (n1 _ _)
        · rw [at_ b isT] at e
          cases e
          exact absurd rfl n2
    have nspace : ∀ {b : Addr} {m : Str → Option Value}, t.heap.Ns b m → (hidT t.heap H).Ns b m := fun {b m} ⟨o, es, ep, e, d, r⟩ =>
      ⟨o, es, ep, look e (off e (fun ws n z => by rw [d] at z; cases z) fun z => by rw [d] at z; cases z), d, r⟩
    have kbase : K.In (hidT t.heap H) := fun b o e => look (kin b o e) (by
      cases hb : H b with
      | none => rfl
      | some u =>
        rcases only b (by rw [hb]; simp) with rfl | ⟨q, hq, rfl⟩
        · rw [free (by rw [hb]; simp)] at e
          cases e
        · rw [notK q hq] at e
          cases e)
    obtain ⟨mc, l1, l2⟩ := nol
    have modu : L2.Mod K mg (hidT t.heap H) := ⟨kbase, nspace gns, ⟨mb, nspace bns, bbt⟩, mc, nspace l1, l2⟩
    have tabs : ∀ q ∈ cs, LamX.TabB (hidT t.heap H) mg q.1 q.2 := fun q hq => by
      have tabq := tab q hq
      obtain ⟨oc, fs, file, tf, flags, tg, inF, text, tt, e1, r1, r2, r3, r4, r5, r6, r7, r8, r9⟩ := id (hc q hq)
      obtain ⟨bm, ob, b1, b2, b3, b4, b5, b6⟩ := bmn
      obtain ⟨og, eg, epg, g1, g2, _⟩ := id gns
      refine ⟨⟨oc, fs, file, tf, flags, tg, inF, text, tt, look e1 (off e1 (fun ws n z => ?_) fun z => ?_), r1, r2, r3, r4, r5, r6, r7, r8, r9⟩, ⟨bm, ob, b1, b2, fun z => ?_, fun z => ?_, look b3 (off b3 (fun ws n z => ?_) fun z => ?_), b4, b5, b6⟩, fun z => ?_⟩
      · rw [r2] at z
        cases z
      · rw [r2] at z
        cases z
        simp at r3
      · rw [z, g1] at b3
        cases b3
        rw [g2] at b6
        cases b6
      · rw [z, tabq] at b3
        cases b3
        cases b6
      · rw [b6] at z
        cases z
      · rw [b6] at z
        cases z
      · rw [z, tabq] at g1
        cases g1
        cases g2
    have env : Env0 P w K mg (hidT t.heap H) callerA [] t H := ⟨rfl, modu, fun b o e => of_hidT e, Nat.le_of_eq (hidT_size _ _), trivial, (fun b hb => absurd (show b ∈ ([] : List Addr) from hb) List.not_mem_nil), ok, .of_eq gen⟩
    refine codeAny_mono ((fn _ kbase (nspace gns) tabs).run callerA [] t H ⟨[.ref a], []⟩ [.ref a] [.ref a] _ _ rfl room env (bind t (.ref a)) (.cons rfl .nil) (want H hPt seq)) ?_
    intro r s2 hr
    match r, hr with
    | .error _, hr => exact False.elim hr
    | .ok .next, hr => exact False.elim hr
    | .ok .brk, hr => exact False.elim hr
    | .ok .cont, hr => exact False.elim hr
    | .ok (.ret u), ⟨v, H2, os, bare, un, ok2, ru, ev⟩ =>
      obtain rfl : v = .bl true := ev
      obtain rfl : u = Value.bool true := ru
      have stay : ∀ b o, (¬ ∃ q ∈ cs, b = q.2) → t.heap.get? b = some o → s2.heap.get? b = some o := fun b o nb e => by
        rcases kinds b with hb | hb | ⟨ob, xs, hb⟩
        · exact un.keep b o e hb (fun z => absurd (show b ∈ ([] : List Addr) from z) List.not_mem_nil) (by simp)
        · exact absurd hb nb
        · obtain ⟨i1, _⟩ := ok b _ hb
          obtain ⟨i2, _⟩ := ok2 b _ (un.frzs b ob _ hb)
          rw [e] at i1
          cases i1
          exact i2
      have now : ∀ q ∈ cs, ∃ more : Array Value, s2.heap.get? q.2 = some { cls := .none, data := .fields (#[] ++ more) } := fun q hq => by
        obtain ⟨more, grow⟩ := un.tbls q.2 #[] (hPt q hq)
        exact ⟨more, ok2 q.2 _ grow⟩
      refine ⟨rfl, ⟨fun b o e => ?_, fun b o e => ?_⟩, os, bare⟩; skip
      · by_cases hb : ∃ q ∈ cs, b = q.2
        · obtain ⟨q, hq, rfl⟩ := hb
          obtain ⟨more, hm⟩ := now q hq
          have tabq := tab q hq
          rw [tabq] at e
          cases e
          exact .inr (.inl ⟨((hc q hq).tab tabq).isCodeTable, rfl, #[], more, rfl, hm⟩)
        · exact .inl (stay b o hb e)
      · by_cases hb : ∃ q ∈ cs, b = q.2
        · obtain ⟨q, hq, rfl⟩ := hb
          obtain ⟨more, hm⟩ := now q hq
          exact ⟨_, hm⟩
        · exact ⟨o, stay b o hb e⟩
  cases hk : K.lookup a with
  | some o =>
    have e := kin a o hk
    rw [la] at e
    cases e
    refine main (fun b => if ∃ q ∈ cs, b = q.2 then some (.tbl #[]) else none) (fun q hq => if_pos ⟨q, hq, rfl⟩) (fun b => ?_) (.inr ⟨_, us.toArray, _, hk, rfl, rfl, rfl, by rw [List.size_toArray, count]; exact short, by simpa using rel⟩) (fun b u z => ?_) (fun b z => ?_) fun z => absurd (if_neg aPt) z
    · by_cases hb : ∃ q ∈ cs, b = q.2
      · exact .inr (.inl hb)
      · exact .inl (if_neg hb)
    · by_cases hb : ∃ q ∈ cs, b = q.2
      · have z2 := (if_pos hb).symm.trans z
        cases z2
        exact at_ b hb
      · have z2 := (if_neg hb).symm.trans z
        cases z2
    · by_cases hb : ∃ q ∈ cs, b = q.2
      · exact .inr hb
      · exact absurd (if_neg hb) z
  | none =>
    refine main (fun b => if b = a then some (.frz { cls := .type "list", data := .seq us.toArray } (.lst (ns.map V.int))) else if ∃ q ∈ cs, b = q.2 then some (.tbl #[]) else none) (fun q hq => (if_neg (fun e => aPt ⟨q, hq, e.symm⟩)).trans (if_pos ⟨q, hq, rfl⟩)) (fun b => ?_) (.inl (.inr ⟨_, if_pos rfl⟩)) (fun b u z => ?_) (fun b z => ?_) fun _ => hk
    · by_cases h1 : b = a
      · exact .inr (.inr ⟨_, _, if_pos h1⟩)
      · by_cases h2 : ∃ q ∈ cs, b = q.2
        · exact .inr (.inl h2)
        · exact .inl ((if_neg h1).trans (if_neg h2))
    · by_cases h1 : b = a
      · have z2 := (if_pos h1).symm.trans z
        cases z2
        rw [h1]
        exact ⟨la, by rw [List.length_map]; exact short, us, _, rel, la⟩
      · have z2 := (if_neg h1).symm.trans z
        by_cases h2 : ∃ q ∈ cs, b = q.2
        · have z3 := (if_pos h2).symm.trans z2
          cases z3
          exact at_ b h2
        · have z3 := (if_neg h2).symm.trans z2
          cases z3
    · by_cases h1 : b = a
      · exact .inl h1
      · by_cases h2 : ∃ q ∈ cs, b = q.2
        · exact .inr h2
        · exact absurd ((if_neg h1).trans (if_neg h2)) z
/-- what the top leaves of the law: T, the tables with the names of what is made there -/
def LawM (l : PySem.W.OpenLaw) (w : World) (K : PySem.W.Frag) (mg : Str → Option Value) (fa : Addr) (h : Heap) (k : Nat) (sp : List (Addr × Addr) → Sp) : Prop :=
  ∃ (fd : FuncData) (cs : List (Addr × Addr)), (∀ q ∈ cs, h.get? q.2 = some { cls := .none, data := .fields #[] }) ∧ (∀ q ∈ cs, K.lookup q.2 = none) ∧ (∀ q ∈ cs, PySem.W.CodeHd h q.1 q.2) ∧ (∀ (s : Shared) (u : Value), BindsTo s fd ⟨[u], []⟩ [("_law_script", u)]) ∧
    ∀ base : Heap, K.In base → base.Ns mainGlobals mg → (∀ q ∈ cs, LamX.TabB base mg q.1 q.2) → FnG l.prog w K mg base k fa fd ["_law_script"] (sp cs)
theorem walkM {l : PySem.W.OpenLaw} {n k : Nat} {qp : Program} {loose : List Str} {XP : (Str → Option Value) → Heap → Prop} {YP : World → Heap → Prop} {d : DefRec} {K : Params → PySem.W.Frag} {sp : World → List (Addr × Addr) → Sp}
    (hn : l.most = some n) (hn2 : n ≤ sizeLine) (hdf : d.params.defaults = []) (room : Room k callerA) (hY : ∀ (w : World) (h : Heap), YP w h → (K w.params).In h)
    (want : ∀ (w : World) (cs : List (Addr × Addr)) (H : Hp) (a : Addr) (ns : List Int), (∀ q ∈ cs, H q.2 = some (.tbl #[])) → SqL (K w.params) H a (ns.map V.int) → sp w cs [.ref a] H (fun v _ => v = .bl true) fun _ _ _ => True)
    (F : ∀ (w : World) (mg : Str → Option Value) (fa : Addr) (h : Heap), YP w h → (K w.params).In h → h.Ns mainGlobals mg → mg d.name = some (.ref fa) → LawM l w (K w.params) mg fa h k (sp w)) :
    PySem.W.WalkO qp loose XP YP l.row.toRowW d [] (fun f vs => PySem.call f vs) := by
  refine Att.attach_callB hn hdf ?_
  intro w s₀ s₁ mg mb fa o pm cd doc a vs ns G Y ho hd hcd hmg hobj hints hlen hbits hg
  obtain ⟨fd, cs, tab, notK, hc, bind, fn⟩ := F w mg fa _ Y (hY w _ Y) G.T.g hmg
  exact law_callM (hY w _ Y) G.T.g G.T.b G.T.builtins G.T.nolimit hg tab notK hc G.T.bmain hobj hints (Nat.le_trans hlen hn2) room fn bind fun H hPt seq => want w cs H a ns hPt seq
end Pl

namespace Pl
open L2 PySem PySem.Spec PyProof.Rows
set_option maxHeartbeats 4100000 in
/-- enumerate(v) of anything that begins so -/
theorem meets_enumB {v : Value} {o : Obj} {Hb : Heap → Prop} (B : Begins v o Hb) :
    Meets (Builtin.«enumerate.__new__» ⟨[.type "enumerate", v], []⟩) (fun _ R s => Hb s.heap ∧
      R (.ok (.ret (.ref (s.heap.push o).objs.size))) { s with heap := (s.heap.push o).push { cls := .type "enumerate", data := .fields #[.none, .bool false, .ref s.heap.objs.size, rawInt 0, .none, .none] } }) := by
  refine .of_wp ?_
  rintro prog w A R ⟨hp, gn, dr, tk, os⟩ ⟨h1, goal⟩
  have isub := sub_enumerate
  have first_ : ∀ {A' : Around} {E : Value → Shared → Prop} {Q : Value → Shared → Prop}, Q (.ref hp.objs.size) ⟨hp.push o, gn, dr, tk, os⟩ → wpAny (model prog w) A' (pyIter v) Q E ⟨hp, gn, dr, tk, os⟩ := fun q => B.iter prog w _ _ ⟨hp, gn, dr, tk, os⟩ _ h1 q
  wp_walk using first_
  refine wpAny_stack_any fun st => wpAny_pure ?_; skip
  split
  · rename_i c _ _ _ _ _
    cases (c == Value.type "enumerate") <;> (wp_walk using first_; exact ⟨_, rfl, goal⟩)
  · wp_walk using first_
    exact ⟨_, rfl, goal⟩
theorem enum_new {prog : Program} {w : World} {A : Around} {E : Value → Shared → Prop} {s : Shared} {v : Value} {o : Obj} {Hb : Heap → Prop} {Q : Value → Shared → Prop} (B : Begins v o Hb) (h1 : Hb s.heap)
    (q : ∀ g, IsEnum g (s.heap.objs.size + 1) s.heap.objs.size 0 .none → g.get? s.heap.objs.size = some o → (∀ b u, s.heap.get? b = some u → g.get? b = some u) → Q (.ref (s.heap.objs.size + 1)) { s with heap := g }) :
    wpAny (model prog w) A (call (.type "enumerate") [v]) Q E s := by
  refine callType_new F.called_enumerate (by decide) (F.typeCall_enumerate_1 _) (F.newCall_enumerate_1 _) (fun obj => F.args_object_init_2 obj _) F.entry_enumerate_new (meets_enumB B) ⟨h1, ?_⟩
  have size : (s.heap.push o).objs.size = s.heap.objs.size + 1 := Heap.size_push ..
  have at_ := Heap.get?_push_size (s.heap.push o) (o := { cls := .type "enumerate", data := .fields #[.none, .bool false, .ref s.heap.objs.size, rawInt 0, .none, .none] }) rfl
  rw [size] at at_
  show _ ∧ _
  rw [size]
  exact ⟨⟨_, at_, rfl⟩, q _ at_ (Heap.get?_push_of_some _ (Heap.get?_push_size _ B.free)) fun b u e => Heap.get?_push_of_some _ (Heap.get?_push_of_some _ e)⟩
/-- the tuple at a, each item with its number in a new pair -/
def Iet (K : PySem.W.Frag) (a : Addr) : It :=
  ⟨fun i H => ∃ (xs : List V) (x : V), SqT K H a xs ∧ xs[i]? = some x, fun i H v G => ∃ T x, v = .ref T ∧ H T = none ∧ G = upd H T (.tup [.int (i : Nat), x]) ∧ ∀ xs, SqT K H a xs → xs[i]? = some x, fun i H => ∃ xs : List V, SqT K H a xs ∧ xs.length = i⟩
theorem turn_enumT {P : Program} {w : World} {K : PySem.W.Frag} {elts : List Expr} {kk : Nat} {tpos : Pos} (a e it : Addr) :
    Turn P w K (.Tuple elts kk tpos) (Iet K a) [e, it] e (fun i h => (∃ old, IsEnum h e it ((i : Nat) : Int) old) ∧ h.IsTupleIter it a i ∧ e ≠ it ∧ a ≠ it ∧ a ≠ e) where
  mem := List.mem_cons_self
  obj := by
    rintro i h ⟨⟨old, he⟩, ⟨o, ho, hc, hd⟩, _⟩ b hb
    rcases List.mem_cons.mp hb with rfl | hb; skip
    · exact ⟨_, he, fun v q => nomatch q⟩
    · rw [List.mem_singleton.mp hb]; skip
      exact ⟨o, ho, fun v q => by rw [hd] at q; cases q⟩
  keep := by
    rintro i h g ⟨⟨old, he⟩, hit, n⟩ k
    exact ⟨⟨old, k e (by simp) _ he⟩, hit.at fun o q => k it (by simp) o q, n⟩
  item := by
    rintro X rfl rfl rfl hc i pins s σ H E I hf ⟨⟨old, he⟩, hit, n1, n2, n3⟩ ⟨xs, x, hq, hx⟩
    obtain ⟨its, rv, p, hz⟩ := I.tuple hq; skip
    obtain ⟨u, hu, ru⟩ := rv.get hx; skip
    have le : e < s.heap.objs.size := Heap.lt_size he
    have li : it < s.heap.objs.size := by
      obtain ⟨_, q, _⟩ := hit
      exact Heap.lt_size q
    have lt : i < its.toArray.size := by
      rw [List.size_toArray]
      exact (List.getElem?_eq_some_iff.mp hu).1
    refine wpAny_pyNext_enum_itemD (Draws.tuple (A := X.A.in1) (I.ok.hd hc) it a n2 its.toArray) he ⟨hit, p⟩ lt n1 (by simp [n1, n3.symm]) fun y g tk hy ho st hT size hk => ?_
    have ey : y = u := by
      have e1 : its[i]? = some y := by simpa using hy
      exact Option.some.inj (e1.symm.trans hu)
    subst ey
    refine ⟨_, rfl, wpAny_letOwnedTupleGo_enum (s := { s with heap := g, toks := tk + 1 }) ho fun g2 he2 sb => ?_⟩
    have hT2 : g2.get? s.heap.objs.size = some { cls := .type "tuple", data := .seq #[.int i tk, y] } := (sb.2 _ (Nat.ne_of_gt le)).trans hT
    have new : ObjOk X.prog X.w (upd H s.heap.objs.size (.tup [.int (i : Nat), x])) g2 s.heap.objs.size (.tup [.int (i : Nat), x]) := ⟨by show 2 ≤ sizeLine; decide, [.int i tk, y], .cons ⟨_, rfl⟩ (.cons ru .nil), ⟨_, hT2, rfl, _, rfl⟩⟩
    have I1 : Inv X pins σ (upd H s.heap.objs.size (.tup [.int (i : Nat), x])) { s with heap := g2, toks := tk + 1 } :=
      I.turnedNew (ch := [e, it])
        (fun b ob hb q => (sb.2 b (fun z => hb (by simp [z]))).trans (hk b ob (fun z => hb (by simp [z])) (fun z => hb (by simp [z])) q)) hf (Nat.le_refl _) new
    refine ⟨.ref s.heap.objs.size, _, I1, rfl, ⟨_, x, rfl, I.hok.fresh (Nat.le_refl _), rfl, fun ys hy => ?_⟩, ⟨⟨y, ?_⟩, st.1.at fun o q => (sb.2 it (Ne.symm n1)).trans q, n1, n2, n3⟩, fun b hb => ?_⟩
    · rw [I.tuple_inj hy hq]
      exact hx
    · rw [show ((i + 1 : Nat) : Int) = (i : Int) + 1 from by omega]
      exact he2
    · have lb : b < s.heap.objs.size := by
        rcases List.mem_cons.mp hb with rfl | hb; skip
        · exact le
        · rw [List.mem_singleton.mp hb]; skip
          exact li
      rw [upd_ne (Nat.ne_of_lt lb)]
      exact (hf b hb).1
  done := by
    rintro X rfl rfl rfl hc i pins s σ H E I hf ⟨⟨old, he⟩, hit, n1, n2, n3⟩ ⟨xs, hq, hx⟩
    obtain ⟨its, rv, p, hz⟩ := I.tuple hq; skip
    obtain ⟨f0, f1, f2, f3, f4, f5⟩ := hf it (by simp); skip
    have len : its.toArray.size = i := by
      rw [List.size_toArray, ← rv.length]
      exact hx
    subst len
    exact wpAny_pyNext_enum_endD (Draws.tuple (A := X.A.in1) (I.ok.hd hc) it a n2 its.toArray) he ⟨hit, p⟩ fun g eb => ⟨rfl, I.turned (t' := s.toks) (fun b o hb q => eb b o hb q) f0 f1 f3 f4 f5⟩
  self := fun A i s Q E st hh => let ⟨⟨_, he⟩, _⟩ := st; wpAny_pyIter_enum he hh
def iEnumT (K : PySem.W.Frag) (ta : TA) : TI := fun σ H R => ta σ H fun vs H1 => ∃ a xs, vs = [.ref a] ∧ SqT K H1 a xs ∧ R (Iet K a) H1
theorem pi_enumT {X : Cx} {e : Expr} {ta : TA} {p pos tpos : Pos} {elts : List Expr} {kk : Nat} (hg : Gl X "enumerate") (hm : X.mg "enumerate" = none) (ha : PA X [e] ta) (hs : (starEach [e] X.env = [(false, eval e X.env)]) := by rfl) :
    PI X (.Tuple elts kk tpos) (.Call (.Name "enumerate" p) [e] [] pos) (iEnumT X.K ta) := by
  constructor
  intro pins s σ H R I h
  refine Call_ (ld_blt I hg hm boot_enumerate (PyProof.Rows.callWith_type1 (thn (ha.run pos pins s σ H _ I h) ?_) hs rfl))
  rintro us s1 ⟨vs, H1, I1, r1, a, xs, rfl, hq, q⟩
  obtain ⟨u, rfl, ru⟩ := vals1 r1; skip
  cases ru
  obtain ⟨its, rv, pt, hz⟩ := I1.tuple hq; skip
  refine enum_new (begins_tuple a its.toArray) pt fun g he hi hk => wpAny_pyIter_enum he ?_
  have la : a < s1.heap.objs.size := by
    obtain ⟨o, ho, _⟩ := pt
    exact Heap.lt_size ho
  refine ⟨s1.heap.objs.size + 1, [s1.heap.objs.size + 1, s1.heap.objs.size], _, _, H1, rfl, I1.kept (t' := s1.toks) hk, turn_enumT a (s1.heap.objs.size + 1) s1.heap.objs.size, ⟨⟨.none, he⟩, ⟨_, hi, rfl, rfl⟩, Nat.succ_ne_self _, Nat.ne_of_lt la, Nat.ne_of_lt (Nat.lt_succ_of_lt la)⟩, fun b hb => ?_, q⟩
  have le : s1.heap.objs.size ≤ b := by
    rcases List.mem_cons.mp hb with rfl | hb; skip
    · exact Nat.le_succ _
    · rw [List.mem_singleton.mp hb]; skip
      exact Nat.le_refl _
  exact I1.fpOk le (I1.hok.fresh le)
theorem walk_enumT {K : PySem.W.Frag} {a : Addr} {xs : List V} : Walk (Iet K a) xs.length (fun H => SqT K H a xs) (YPair (fun i => some (.int (i : Nat))) (fun i => xs[i]?)) := by
  refine ⟨fun i _ hi q => ⟨xs, xs[i], q, by simp [hi]⟩, fun _ q => ⟨xs, q, rfl⟩, ?_⟩
  rintro i H v H' _ q ⟨T, x, h1, h2, h3, h4⟩
  exact ⟨T, .int (i : Nat), x, h1, h2, h3, rfl, h4 xs q⟩; skip
end Pl

namespace Pl
open L2 PySem PySem.Spec PyProof.Rows
abbrev sPInit : Stmt := inClass (top 34) 0
theorem sup {H G : Hp} {D : Addr} {o : HO} (hD : H D = none) (s : Same H G) : Same H (upd G D o) := fun b u hb => by
  rw [upd_ne (ne_of_none hb hD)]
  exact s b u hb
theorem same_up {p : Addr} {H : Hp} {o : HO} (f : H p = none) : Same H (upd H p o) := fun b u e => (upd_ne (ne_of_none e f)).trans e
theorem pi_or {X : Cx} {tg e : Expr} {w1 w2 : TI} (h1 : PI X tg e w1) (h2 : PI X tg e w2) : PI X tg e (fun σ H R => w1 σ H R ∨ w2 σ H R) := ⟨fun pins s σ H R I h => h.elim (fun g => h1.run pins s σ H R I g) fun g => h2.run pins s σ H R I g⟩
/-! ### errors -/
structure ErrN (K : PySem.W.Frag) (mg : Str → Option Value) (x : Str) (C fI : Addr) : Prop where
  ox : OexC K C
  gC : mg x = some (.ref C)
  iC : PySem.W.findIn K (.ref C) "__init__" = some (some (.ref fI))
  tI : PySem.W.typeIn K (.ref fI) = some (.type "function")
  no : PySem.W.findIn K (.ref C) "told" = some none
structure MakN (P : Program) (w : World) (K : PySem.W.Frag) (mg : Str → Option Value) (base : Heap) (x : Str) (C : Addr) : Prop where
  ex : ∃ (fI : Addr) (fd : FuncData), ErrN K mg x C fI ∧ FnOk P w K mg base CX0 1 fI fd ["self", "told"] (spInit K) ∧ Binds K fd ["self", "told"] []
theorem Rais.same {C : Addr} {v : V} {H G : Hp} {E : XK} (r : Rais C v H E) (s : Same H G) : Rais C v G E := fun d H' s' h => r d H' (s.trans s') h
theorem raised {K : PySem.W.Frag} {C : Addr} {v : V} {σ : L2.St} {H : Hp} {E : XK} {ta : TA} (ox : OexC K C) (no : PySem.W.findIn K (.ref C) "told" = some none) (h : ∀ k : List V → Hp → Prop, k [v] H → ta σ H k) (q : Rais C v H E) : tMkO C (spInit K) [] ta σ H E := by
  refine h _ ⟨by simp, fun a ha => ?_⟩
  refine ⟨a, C, v, rfl, ox, no, upd_same, fun dx hdx ne => ⟨rfl, dx, [(("told" : Str), v)], upd_same, ?_, ?_, ?_⟩⟩
  · rw [upd_ne ne, upd_same]
  · rw [upd_ne ne] at hdx
    exact hdx
  · have hdG : H dx = none := by
      rw [upd_ne ne] at hdx
      exact hdx
    refine q dx _ (fun b o hb => ?_) upd_same
    have n1 : b ≠ dx := ne_of_none hb hdG
    have n2 : b ≠ a := ne_of_none hb ha
    rw [upd_ne n1, del_ne n2, upd_ne n2, upd_ne n1, upd_ne n2]
    exact hb
theorem raised_v {K : PySem.W.Frag} {C : Addr} {v : V} {i : Nat} {σ : L2.St} {H : Hp} {E : XK} (ox : OexC K C) (no : PySem.W.findIn K (.ref C) "told" = some none) (hv : σ[i]? = some (some v)) (q : Rais C v H E) : tMkO C (spInit K) [] (tCons (tVar i) tNil) σ H E :=
  raised ox no (fun k hk => ⟨v, hv, hk⟩) q
theorem raised_c {K : PySem.W.Frag} {C : Addr} {v : V} {σ : L2.St} {H : Hp} {E : XK} (ox : OexC K C) (no : PySem.W.findIn K (.ref C) "told" = some none) (q : Rais C v H E) : tMkO C (spInit K) [] (tCons (tC v) tNil) σ H E :=
  raised ox no (fun k hk => hk) q
/-- the one over OverflowError -/
structure ErrO (K : PySem.W.Frag) (mg : Str → Option Value) (C fI : Addr) : Prop where
  ox : OvC K C
  gC : mg "TooMany" = some (.ref C)
  iC : PySem.W.findIn K (.ref C) "__init__" = some (some (.ref fI))
  tI : PySem.W.typeIn K (.ref fI) = some (.type "function")
  no : PySem.W.findIn K (.ref C) "most" = some none
def spInitO (K : PySem.W.Frag) : Sp := fun vs H Q _ => ∃ (a C : Addr) (y : V), vs = [.ref a, y] ∧ OvC K C ∧ PySem.W.findIn K (.ref C) "most" = some none ∧ H a = some (exo a C none) ∧ ∀ dx, H dx = none → dx ≠ a → Q .non (upd (upd H dx (exd dx [("most", y)])) a (exo a C (some dx)))
structure MakO (P : Program) (w : World) (K : PySem.W.Frag) (mg : Str → Option Value) (base : Heap) (C : Addr) : Prop where
  ex : ∃ (fI : Addr) (fd : FuncData), ErrO K mg C fI ∧ FnOk P w K mg base CX0 1 fI fd ["self", "most"] (spInitO K) ∧ Binds K fd ["self", "most"] []
def RaisO (C : Addr) (v : V) (H : Hp) (E : XK) : Prop := ∀ (d : Addr) (H' : Hp), Same H H' → H' d = some (.xd [("most", v)]) → E (.ref C) (some d) H'
theorem RaisO.same {C : Addr} {v : V} {H G : Hp} {E : XK} (r : RaisO C v H E) (s : Same H G) : RaisO C v G E := fun d H' s' h => r d H' (s.trans s') h
theorem raisedO {K : PySem.W.Frag} {C : Addr} {v : V} {σ : L2.St} {H : Hp} {E : XK} (ox : OvC K C) (no : PySem.W.findIn K (.ref C) "most" = some none) (q : RaisO C v H E) : tMkO C (spInitO K) [] (tCons (tC v) tNil) σ H E := by
  refine ⟨by simp, fun a ha => ?_⟩
  refine ⟨a, C, v, rfl, ox, no, upd_same, fun dx hdx ne => ⟨rfl, dx, [(("most" : Str), v)], upd_same, ?_, ?_, ?_⟩⟩
  · rw [upd_ne ne, upd_same]
  · rw [upd_ne ne] at hdx
    exact hdx
  · have hdG : H dx = none := by
      rw [upd_ne ne] at hdx
      exact hdx
    refine q dx _ (fun b o hb => ?_) upd_same
    have n1 : b ≠ dx := ne_of_none hb hdG
    have n2 : b ≠ a := ne_of_none hb ha
    rw [upd_ne n1, del_ne n2, upd_ne n2, upd_ne n1, upd_ne n2]
    exact hb
section
variable {P : Program} {K : PySem.W.Frag} {w : World} {base : Heap} {mg : Str → Option Value}
theorem scInit3 : FnScope ["self", "told"] ["self", "told"] (defScope (inClass (top 3) 0)) := ⟨rfl, rfl, rfl, by decide +kernel, rfl, by decide +kernel, by decide +kernel⟩
theorem ok_init3 {f : Addr} {fd : FuncData} (F : Fun K "__init__" "NoPast.__init__" (inClass (top 3) 0) f fd) : FnOk P w K mg base CX0 1 f fd ["self", "told"] (spInit K) := by
  refine F.ok scInit3 (fun vs H Q E h => ?_) (fun cdv A outer s H vs Q E hr h => ?_)
  · obtain ⟨a, C, y, rfl, _⟩ := h
    rfl
  · obtain ⟨a, C, y, rfl, T, no, ha, q⟩ := h
    exact ⟨_, pss_one (ps_ost (pv 0) (pv 1)), y, rfl, .ref a, rfl, a, C, rfl, T, no, .inl ⟨ha, q⟩⟩
theorem scInit4 : FnScope ["self", "told"] ["self", "told"] (defScope (inClass (top 4) 0)) := ⟨rfl, rfl, rfl, by decide +kernel, rfl, by decide +kernel, by decide +kernel⟩
theorem ok_init4 {f : Addr} {fd : FuncData} (F : Fun K "__init__" "NoMoment.__init__" (inClass (top 4) 0) f fd) : FnOk P w K mg base CX0 1 f fd ["self", "told"] (spInit K) := by
  refine F.ok scInit4 (fun vs H Q E h => ?_) (fun cdv A outer s H vs Q E hr h => ?_)
  · obtain ⟨a, C, y, rfl, _⟩ := h
    rfl
  · obtain ⟨a, C, y, rfl, T, no, ha, q⟩ := h
    exact ⟨_, pss_one (ps_ost (pv 0) (pv 1)), y, rfl, .ref a, rfl, a, C, rfl, T, no, .inl ⟨ha, q⟩⟩
theorem scInit5 : FnScope ["self", "most"] ["self", "most"] (defScope (inClass (top 5) 0)) := ⟨rfl, rfl, rfl, by decide +kernel, rfl, by decide +kernel, by decide +kernel⟩
theorem ok_init5 {f : Addr} {fd : FuncData} (F : Fun K "__init__" "TooMany.__init__" (inClass (top 5) 0) f fd) : FnOk P w K mg base CX0 1 f fd ["self", "most"] (spInitO K) := by
  refine F.ok scInit5 (fun vs H Q E h => ?_) (fun cdv A outer s H vs Q E hr h => ?_)
  · obtain ⟨a, C, y, rfl, _⟩ := h
    rfl
  · obtain ⟨a, C, y, rfl, T, no, ha, q⟩ := h
    exact ⟨_, pss_one (ps_ostO (pv 0) (pv 1)), y, rfl, .ref a, rfl, a, C, rfl, T, no, ha, q⟩
end
/-! ### pasts -/
structure Cs3 (mg : Str → Option Value) : Prop where
  enum : mg "enumerate" = none
  deeds : ∃ t, mg "MOST_DEEDS" = some (.int 60 t)
/-- what is written of the class Past -/
structure PstC (K : PySem.W.Frag) (C : Addr) : Prop where
  cls : L2.Cls K C
  n1 : NoAttr K C "_moments"
  n2 : NoAttr K C "_rows"
/-- a row as a past keeps it -/
def RP (z : Addr) (G : Hp) (r : RowD) : Prop := (∀ m, Dv m z G false (rv r) (rd r)) ∧ isDeed (rd r) = true ∧ r.1 = momD (rd r) ∧ inOrd (rd r) = rd r ∧ Bd 210 3 (rd r)
theorem RP.to {z : Addr} {H G : Hp} {r : RowD} (h : RP z H r) (b : But z H G) : RP z G r := ⟨fun m => Dv.to b _ _ _ (h.1 m), h.2⟩
theorem RP.same {z : Addr} {H G : Hp} {r : RowD} (h : RP z H r) (s : Same H G) : RP z G r := h.to (But.of s)
def momL (L : List RowD) : List Int := (L.map (·.1)).mergeSort fun a b => decide (a ≤ b)
/-- an instance that keeps the rows L -/
def PastAt (C z : Addr) (H : Hp) (p : Addr) (L : List RowD) : Prop := ∃ dx pm pd, H p = some (.ins C dx [("_moments", .ref pm), ("_rows", .ref pd)]) ∧ H pm = some (.lst ((momL L).map V.int)) ∧ H pd = some (.dK (kvR L)) ∧ p ≠ z ∧ pm ≠ z ∧ pd ≠ z ∧ (∀ r ∈ L, RP z H r) ∧ (L.map (·.1)).Nodup ∧ L.length ≤ 60
theorem PastAt.to {C z p : Addr} {H G : Hp} {L : List RowD} (h : PastAt C z H p L) (b : But z H G) : PastAt C z G p L := by
  obtain ⟨dx, pm, pd, h1, h2, h3, n1, n2, n3, hr, nd, l⟩ := h
  exact ⟨dx, pm, pd, b _ _ n1 trivial h1, b _ _ n2 trivial h2, b _ _ n3 trivial h3, n1, n2, n3, fun r m => (hr r m).to b, nd, l⟩
/-- the first that is refused -/
def firstBad : List Int → Nat → List PyData → Option Nat
  | _, _, [] => none
  | seen, i, d :: ds => if isDeed d = true ∧ momD d ∉ seen then firstBad (seen ++ [momD d]) (i + 1) ds else some i
/-- one handed in -/
def El (z : Addr) (H : Hp) (q : V × PyData) : Prop := Dv false z H false q.1 q.2 ∧ q.2.weight ≤ 1000 ∧ (isDeed q.2 = true → Bd 210 3 q.2)
theorem El.same {z : Addr} {H G : Hp} {q : V × PyData} (h : El z H q) (s : Same H G) : El z G q := ⟨Dv.to (But.of s) _ _ _ h.1, h.2⟩
theorem find_some (M : List RowD) (m : Int) : (findR M m).isSome = decide (m ∈ M.map (·.1)) := by
  induction M with
  | nil => rfl
  | cons q M ih =>
    unfold findR at ih ⊢
    rw [List.find?_cons]
    by_cases h : q.1 = m
    · rw [decide_eq_true h]
      simp [h]
    · rw [decide_eq_false h]
      show (List.find? _ M).isSome = _
      rw [ih]
      simp [Ne.symm h, List.mem_cons]
theorem putK_new {L : List RowD} {m : Int} {v : V} {d : PyData} (h : m ∉ L.map (·.1)) : putK (kvR L) (Sum.inl m) v = kvR (L ++ [(m, v, d)]) := by
  unfold putK
  rw [valV_any, valV_kvR, Option.isSome_map, find_some, decide_eq_false h]
  unfold kvR
  rw [List.map_append]
  rfl
theorem kvR_keys (L : List RowD) : (kvR L).map (·.1) = (L.map (·.1)).map Sum.inl := by
  unfold kvR
  rw [List.map_map, List.map_map]; skip
  rfl
theorem kvR_len (L : List RowD) : (kvR L).length = L.length := List.length_map _
theorem sorted_is {ys : List Int} {L : List RowD} (p : ys.Perm (L.map (·.1))) (s : ys.Pairwise (· ≤ ·)) : ys = momL L := by
  refine List.Perm.eq_of_pairwise (le := fun a b => decide (a ≤ b) = true) (fun a b _ _ h1 h2 => ?_) (s.imp fun h => decide_eq_true h) ?_ (p.trans (List.mergeSort_perm _ _).symm)
  · have h1 := of_decide_eq_true h1
    have h2 := of_decide_eq_true h2
    omega
  · refine List.pairwise_mergeSort (le := fun a b : Int => decide (a ≤ b)) (fun a b c h1 h2 => ?_) (fun a b => ?_) _
    · have h1 := of_decide_eq_true h1
      have h2 := of_decide_eq_true h2
      exact decide_eq_true (by omega); skip
    · rw [Bool.or_eq_true, decide_eq_true_eq, decide_eq_true_eq]
      omega
end Pl

namespace Pl
open L2 PySem PySem.Spec PyProof.Rows
/-- all but x, which is being made, stands -/
def ButX (x : Addr) (H G : Hp) : Prop := ∀ b o, b ≠ x → H b = some o → G b = some o
/-- the list of its moments is new -/
def NewM (C : Addr) (H G : Hp) (x : Addr) : Prop := ∃ dx pm pd, G x = some (.ins C dx [("_moments", .ref pm), ("_rows", .ref pd)]) ∧ H pm = none
def spPInit (K : PySem.W.Frag) (C CP CT : Addr) : Sp := fun vs H Q E => ∃ (x dx : Addr) (v : V), vs = [.ref x, v] ∧ H x = some (.ins C dx []) ∧
  ((∃ kd : String, (∀ G, Same H G → TyX K G v (.type kd)) ∧ PySem.W.kitAny K (.type kd) [.type "list", .type "tuple"] = some false ∧ Rais CP .non H E) ∨
   ∃ (a z : Addr) (A : List (V × PyData)), v = .ref a ∧ ((∀ G, Same H G → TyX K G (.ref a) (.type "list") ∧ SqL K G a (A.map (·.1))) ∨ ∀ G, Same H G → TyX K G (.ref a) (.type "tuple") ∧ SqT K G a (A.map (·.1))) ∧ z ≠ x ∧ (∃ ys, H z = some (.lst ys)) ∧ A.length ≤ 61 ∧ (∀ q ∈ A, El z H q) ∧
    (∀ i, firstBad [] 0 (A.map (·.2)) = some i → Rais CP (.int i) H E) ∧
    (firstBad [] 0 (A.map (·.2)) = none → (60 < A.length → RaisO CT (.int 60) H E) ∧
      (A.length ≤ 60 → ∀ (L : List RowD) G, ButX x H G → NewM C H G x → PastAt C z G x L → L.map (·.1) = (A.map (·.2)).map momD → L.map rd = (A.map (·.2)).map inOrd → Q .non G)))
abbrev nPI : List Str := ["self", "deeds", "rows", "index", "deed"]
theorem none_back {H F : Hp} {p : Addr} (s : Same H F) (h : F p = none) : H p = none := by
  cases e : H p with
  | none => rfl
  | some o =>
    rw [s _ _ e] at h
    cases h
theorem bad_step {seen : List Int} {i : Nat} {d : PyData} {ds : List PyData} (h : isDeed d = true) (n : momD d ∉ seen) : firstBad seen i (d :: ds) = firstBad (seen ++ [momD d]) (i + 1) ds := if_pos ⟨h, n⟩
theorem bad_here {seen : List Int} {i : Nat} {d : PyData} {ds : List PyData} (h : ¬ (isDeed d = true ∧ momD d ∉ seen)) : firstBad seen i (d :: ds) = some i := if_neg h
theorem drop_get {α : Type} {l : List α} {i : Nat} {x : α} (h : l[i]? = some x) : l.drop i = x :: l.drop (i + 1) := by
  obtain ⟨hi, e⟩ := List.getElem?_eq_some_iff.mp h; skip
  rw [List.drop_eq_getElem_cons hi, e]
theorem fst_get {A : List (V × PyData)} {i : Nat} {v : V} (h : (A.map (·.1))[i]? = some v) : ∃ q, A[i]? = some q ∧ v = q.1 := by
  rw [List.getElem?_map] at h
  cases e : A[i]? with
  | none =>
    rw [e] at h
    cases h
  | some q =>
    rw [e] at h
    exact ⟨q, rfl, (Option.some.inj h).symm⟩
section
variable {m m' : Bool} {z z' : Addr} {H G : Hp}
mutual
/-- where the tuples stand, data without lists and dicts stand -/
theorem dv_tup (s1 : ∀ b xs, H b = some (.tup xs) → G b = some (.tup xs)) (s2 : ∀ b o xs, H b = some (.frz o (.tup xs)) → G b = some (.frz o (.tup xs))) {ys : List V} (hz : G z = some (.lst ys)) : ∀ (k : Bool) (d : PyData) (v : V), noLD d = true → Dv m' z' H k v d → Dv m z G k v d
  | _, .none, _, _, h => by cases h; exact .non
  | _, .bool _, _, _, h => by cases h; exact .bl _
  | _, .int _, _, _, h => by cases h; exact .int _
  | _, .str _, _, _, h => by cases h; exact .str _
  | _, .list ds, _, n, h => by simp [noLD] at n
  | _, .dict _, _, n, h => by simp [noLD] at n
  | k, .tuple ds, _, n, h => by
    cases h with
    | @tup _ a xs _ ne h t =>
      have h' : TupAt G k a xs := by
        cases h with
        | frz h d => exact .frz (s2 _ _ _ h) d
        | big h l => exact .big (s1 _ _ h) l
        | any h => exact .any (s1 _ _ h)
      exact .tup (h'.ne_z hz) h' (dvl_tup s1 s2 hz _ ds _ (by simpa [noLD] using n) t)
theorem dvl_tup (s1 : ∀ b xs, H b = some (.tup xs) → G b = some (.tup xs)) (s2 : ∀ b o xs, H b = some (.frz o (.tup xs)) → G b = some (.frz o (.tup xs))) {ys : List V} (hz : G z = some (.lst ys)) : ∀ (k : Bool) (ds : List PyData) (vs : List V), noLDs ds = true → DvL m' z' H k vs ds → DvL m z G k vs ds
  | _, [], _, _, h => by cases h; exact .nil
  | _, d :: ds, _, n, h => by
    cases h with
    | cons a t =>
      simp only [noLDs, Bool.and_eq_true] at n
      exact .cons (dv_tup s1 s2 hz _ d _ n.1 a) (dvl_tup s1 s2 hz _ ds _ n.2 t)
end
theorem deed_head {k : Bool} {v : V} {d : PyData} (h : isDeed d = true) (a : Dv m z H k v d) : ∃ p vs, v = .ref p ∧ TupAt H k p (.int (momD d) :: vs) := by
  have key : ∀ (mo : Int) (ds : List PyData), d = .tuple (.int mo :: ds) → ∃ p vs, v = .ref p ∧ TupAt H k p (.int mo :: vs) := fun mo ds e => by
    subst e
    obtain ⟨p, xs, rfl, ne, ht, hl⟩ := a.tupD
    cases hl with
    | cons h1 t1 =>
      cases h1
      exact ⟨p, _, rfl, ht⟩
  rcases deed_cases h with ⟨mo, k', ps, rfl, _⟩ | ⟨mo, x, p, r, rfl, _⟩
  · exact key mo _ rfl
  · exact key mo _ rfl
end
theorem bad_nodup : ∀ {ds : List PyData} {seen : List Int} {i : Nat}, firstBad seen i ds = none → seen.Nodup → (seen ++ ds.map momD).Nodup ∧ ∀ d ∈ ds, isDeed d = true
  | [], seen, _, _, n => by
    rw [List.map_nil, List.append_nil]
    exact ⟨n, fun d h => by cases h⟩
  | d :: ds, seen, i, h, n => by
    by_cases c : isDeed d = true ∧ momD d ∉ seen
    · rw [bad_step c.1 c.2] at h
      have nd : (seen ++ [momD d]).Nodup := List.nodup_append.mpr ⟨n, by simp, fun a ha b hb e => by
        rw [List.mem_singleton] at hb
        subst hb
        subst e
        exact c.2 ha⟩
      obtain ⟨a, b⟩ := bad_nodup h nd
      refine ⟨?_, fun e he => ?_⟩
      · rw [List.append_assoc] at a
        exact a
      · rcases List.mem_cons.mp he with rfl | he; skip
        · exact c.1
        · exact b e he
    · rw [bad_here c] at h
      cases h
theorem kit_lt_l {K : PySem.W.Frag} : PySem.W.kitAny K (.type "list") [.type "list", .type "tuple"] = some true := by
  unfold PySem.W.kitAny
  rw [show PySem.W.kitOne K (.type "list") (.type "list") = some true from kit_ty (show kitB "list" "list" = some true from by decide +kernel)]
theorem kit_lt_t {K : PySem.W.Frag} : PySem.W.kitAny K (.type "tuple") [.type "list", .type "tuple"] = some true := by
  unfold PySem.W.kitAny
  rw [show PySem.W.kitOne K (.type "tuple") (.type "list") = some false from kit_ty (show kitB "tuple" "list" = some false from by decide +kernel)]
  show PySem.W.kitAny K (.type "tuple") [.type "tuple"] = some true
  unfold PySem.W.kitAny
  rw [show PySem.W.kitOne K (.type "tuple") (.type "tuple") = some true from kit_ty (show kitB "tuple" "tuple" = some true from by decide +kernel)]
section
variable {P : Program} {w : World} {K : PySem.W.Frag} {mg : Str → Option Value} {base : Heap} {C CP CT CD : Addr}
abbrev spOrd (CD : Addr) : Sp := spD CD fun d _ H Q => ∀ m z v' H', Same H H' → Dv m z H' false v' (inOrd d) → Q v' H'
theorem scPI : FnScope nPI ["self", "deeds"] (defScope sPInit) := ⟨rfl, rfl, rfl, by decide +kernel, rfl, by decide +kernel, by decide +kernel⟩
theorem ok_pinit {f : Addr} {fd : FuncData} {dvs : List V} (F : FunD K "__init__" "Past.__init__" (defArgs sPInit) (defBody sPInit) (defScope sPInit) dvs [] f fd) (T : Cst K mg) (T2 : Cs2 mg) (T3 : Cs3 mg) (PC : PstC K C) (MP : MakN P w K mg base "NoPast" CP) (MT : MakO P w K mg base CT)
    (D1 : Df P w K mg base 7 "is_deed" ["value"] (spP isDeed)) (D2 : DfX P w K mg base 9 "in_order" ["deed"] (spOrd CD)) : FnOk P w K mg base (L2.CX P w) 10 f fd ["self", "deeds"] (spPInit K C CP CT) := by
  obtain ⟨t60, h60⟩ := T3.deeds
  obtain ⟨e1, fd1, G1, m1, k1, b1⟩ := D1.ex
  obtain ⟨e2, fd2, G2, m2, k2, b2⟩ := D2.ex
  obtain ⟨fP, fdP, TP, GP, bP⟩ := MP.ex
  obtain ⟨fT, fdT, TT, GT, bT⟩ := MT.ex
  refine F.ok scPI (fun vs H Q E h => ?_) (fun cdv A outer s0 H vs Q E hr h => ?_)
  · obtain ⟨x, dx, v, rfl, _⟩ := h
    rfl
  · obtain ⟨x, dx, v, rfl, hx, cs⟩ := h
    have hu : (A.deeper (envOfC "Past.__init__" (defScope sPInit) s0.heap.objs.size f cdv)).units + 1 < cLine := by
      have := hr.un
      omega
    refine ⟨_, pss_cons (ps_if (pt_not (pt_val (pe_callB call_isiT (by rfl) T.isi (by decide +kernel) (pa_cons (pv 1) (pa_cons (pe_tup (pa_cons (pe_bltn (v := .ty "list") (by rfl) T2.lst (by decide +kernel) rfl) (pa_cons (pe_bltn (v := .ty "tuple") (by rfl) T.ttup (by decide +kernel) rfl) pa_nil))) pa_nil)))))
        (pss_one (ps_raise rfl (takes_of rfl rfl rfl rfl) (pmk_oex TP.ox TP.iC TP.tI GP (hr.mono (by decide)) bP .nil pass0 (by rfl) TP.gC (pa_cons pe_non pa_nil)))) pss_nil)
      (pss_cons (ps_set (i := 2) scPI.nd rfl (Or.inl rfl) pe_dnewK)
      (pss_cons (ps_for (passes_of rfl) rfl (pi_or (pi_enum (by rfl) T3.enum (pa_cons (pv 1) pa_nil)) (pi_enumT (by rfl) T3.enum (pa_cons (pv 1) pa_nil))) (pg_tup rfl (pgs_cons (pg_name (i := 3) scPI.nd rfl (Or.inl rfl)) (pgs_cons (pg_name (i := 4) scPI.nd rfl (Or.inl rfl)) pgs_nil)))
        (pss_cons (ps_if (PW.pt (pw_or (pt_not (pt_val (pe_call G1 (hr.mono (by decide)) (by rfl) m1 k1 b1 .nil pass0 (pa_cons (pv 4) pa_nil)))) (pw_or1 (pt_cmp (pc_din hu (pe_ix (show IxR _ (rIxT K) from ix_tup) (pv 4) pe_int (fun _ _ => rfl)) (pv 2))))))
          (pss_one (ps_raise rfl (takes_of rfl rfl rfl rfl) (pmk_oex TP.ox TP.iC TP.tI GP (hr.mono (by decide)) bP .nil pass0 (by rfl) TP.gC (pa_cons (pv 3) pa_nil)))) pss_nil)
        (pss_one (ps_dput hu (pv 2) (pe_ix (show IxR _ (rIxT K) from ix_tup) (pv 4) pe_int (fun _ _ => rfl)) (pe_call (E := E) G2 (hr.mono (by decide)) (by rfl) m2 k2 b2 .nil (passes_call (takes_of rfl rfl rfl rfl) fun _ _ _ _ h => h) (pa_cons (pv 4) pa_nil)) rfl))))
      (pss_cons (ps_if (pt_cmpR op_gt (pe_callB call_lenD (by rfl) T.len PySem.boot_len (pa_cons (pv 2) pa_nil)) (pe_glob (v := .int 60) (by rfl) h60 ⟨_, rfl⟩) (nomark _))
        (pss_one (ps_raise rfl (takes_of rfl rfl rfl rfl) (pmk_ov TT.ox TT.iC TT.tI GT (hr.mono (by decide)) bT pass0 (by rfl) TT.gC (pa_cons (pe_glob (v := .int 60) (by rfl) h60 ⟨_, rfl⟩) pa_nil)))) pss_nil)
      (pss_cons (ps_fld (pv 0) (pe_callB (call_sortedDI rfl) (by rfl) T.srt (by decide +kernel) (pa_cons (pv 2) pa_nil)) rfl)
      (pss_one (ps_fld (pv 0) (pv 2) rfl)))))), ?_⟩
    refine ⟨v, rfl, by show 2 ≤ sizeLine; decide, fun tq htq => ?_⟩
    have s1 := same_up (o := .tup [.ty "list", .ty "tuple"]) htq
    have fq : upd H tq (.tup [.ty "list", .ty "tuple"]) tq = some (.tup [.ty "list", .ty "tuple"]) := upd_same
    generalize upd H tq (.tup [.ty "list", .ty "tuple"]) = Ga at s1 fq ⊢
    rcases cs with ⟨kd, ty, no, rP⟩ | ⟨a, z, A, rfl, hA, zx, ⟨ys, hz⟩, lA, hEl, bad, good⟩
    · exact ⟨v, tq, _, _, _, _, rfl, fq, .cons (.ty _) (.cons (.ty _) .nil), ty _ s1, no, _, rfl, iteT (raised_c TP.ox TP.no (rP.same s1))⟩
    obtain ⟨kd, ty, yes⟩ : ∃ kd : String, TyX K Ga (.ref a) (.type kd) ∧ PySem.W.kitAny K (.type kd) [.type "list", .type "tuple"] = some true := by
      rcases hA with h | h
      · exact ⟨_, (h _ s1).1, kit_lt_l⟩
      · exact ⟨_, (h _ s1).1, kit_lt_t⟩
    refine ⟨.ref a, tq, _, _, _, _, rfl, fq, .cons (.ty _) (.cons (.ty _) .nil), ty, yes, _, rfl, iteF ?_⟩
    intro W hW
    have s2 := same_up (o := .dK []) hW
    have fW : upd Ga W (.dK []) W = some (.dK (kvR [])) := upd_same
    have s12 := s1.trans s2
    generalize upd Ga W (.dK []) = G0 at s2 fW s12 ⊢
    have eb0 : firstBad [] 0 (A.map (·.2)) = firstBad (([] : List RowD).map (·.1)) 0 ((A.map (·.2)).drop 0) := by rw [List.drop_zero]; rfl
    rcases hA with sqF | sqF
    · refine .inl ⟨_, rfl, a, _, rfl, (sqF _ s12).2, for_it (walk_enum (K := K) (a := a) (xs := A.map (·.1))) (fun i σ F => (∃ x3 x4, σ = [some (.ref x), some (.ref a), some (.ref W), x3, x4]) ∧ Same Ga F ∧ ∃ L : List RowD, F W = some (.dK (kvR L)) ∧ L.map (·.1) = ((A.map (·.2)).take i).map momD ∧ L.map rd = ((A.map (·.2)).take i).map inOrd ∧ (∀ r ∈ L, RP z F r) ∧ firstBad [] 0 (A.map (·.2)) = firstBad (L.map (·.1)) i ((A.map (·.2)).drop i)) ⟨⟨_, _, rfl⟩, s2, [], fW, by rw [List.take_zero]; rfl, by rw [List.take_zero]; rfl, (fun r h => by cases h), eb0⟩ (fun i σ F _ h => (sqF _ (s1.trans h.2.1)).2) ?_ ?_⟩
      · rintro i y σ F F' hi ⟨⟨x3, x4, rfl⟩, sF, L, hL, e1, e2, hr, eb⟩ ⟨T0, u, v, rfl, nT, rfl, hu', hv⟩
        cases hu'
        obtain ⟨q, hq, rfl⟩ := fst_get hv
        have mq := List.mem_of_getElem? hq
        have hd2 : (A.map (·.2))[i]? = some q.2 := by rw [List.getElem?_map, hq]; rfl
        have s4 := same_up (o := .tup [.int (i : Nat), q.1]) nT
        have sF4 := sF.trans s4
        have hL4 := s4 _ _ hL
        have eq_ := (hEl q mq).same (s1.trans sF4)
        rw [drop_get hd2] at eb
        refine ⟨T0, _, rfl, SqT.of upd_same, rfl, _, _, rfl, _, _, rfl, rfl, ?_⟩
        generalize upd F T0 (.tup [.int (i : Nat), q.1]) = F1 at s4 sF4 hL4 eq_ ⊢
        refine ⟨_, rfl, false, z, false, q.1, q.2, rfl, eq_.1, eq_.2.1, fun F2 s5 => ⟨_, rfl, ?_⟩⟩
        have sF5 := sF4.trans s5
        have eq5 := eq_.same s5
        refine ite2 (fun e => ?_) fun e => ?_
        · have e : isDeed q.2 = false := by simpa using e
          refine iteT (raised_v TP.ox TP.no rfl ((bad i ?_).same (s1.trans sF5)))
          rw [eb, bad_here (fun h => by rw [e] at h; exact absurd h.1 (by decide))]
        have e : isDeed q.2 = true := by simpa using e
        obtain ⟨a', vs', ev, ht⟩ := deed_head e (eq5.1)
        have hL5 := s5 _ _ hL4
        refine ⟨_, rfl, a', _, _, .int (momD q.2), ev ▸ rfl, rfl, ht.sq, atI_nat (j := 0) rfl, _, rfl, W, _, rfl, DGet.k (k := Sum.inl (momD q.2)) hL5, _, rfl, ?_⟩
        rw [valV_kvR, Option.isSome_map, find_some]
        refine ite2 (fun e3 => ?_) fun e3 => ?_
        · refine raised_v TP.ox TP.no rfl ((bad i ?_).same (s1.trans sF5))
          have e3 := of_decide_eq_true e3
          rw [eb, bad_here (fun h => h.2 e3)]
        have new : momD q.2 ∉ L.map (·.1) := fun h => e3 (decide_eq_true h)
        rw [bad_step e new] at eb
        refine ⟨_, rfl, false, z, false, q.1, q.2, rfl, ⟨_, sF5 _ _ (s1 _ _ hz)⟩, eq5.1, eq5.2.1, fun _ m' z' v' F3 s6 hv' => ?_, fun no => by rw [e] at no; cases no⟩
        have sF6 := sF5.trans s6
        have hL6 := s6 _ _ hL5
        have ht6 := ht.to (But.of (z := z) s6) (ht.ne_z (sF5 _ _ (s1 _ _ hz)))
        have ll : L.length ≤ i := by
          have := congrArg List.length e1
          rw [List.length_map, List.length_map, List.length_take] at this
          omega
        rw [List.length_map] at hi
        refine ⟨_, rfl, _, rfl, a', _, _, .int (momD q.2), ev ▸ rfl, rfl, ht6.sq, atI_nat (j := 0) rfl, W, _, rfl, DPut.k (k := Sum.inl (momD q.2)) hL6 (by rw [kvR_len]; exact small1000 (by omega)), ⟨_, _, rfl⟩, sup hW sF6, L ++ [(momD q.2, v', inOrd q.2)], ?_, ?_, ?_, ?_, ?_⟩
        · rw [upd_same, putK_new (d := inOrd q.2) new]
        · rw [List.map_append, e1, take_snoc hd2, List.map_append]
          rfl
        · rw [List.map_append, e2, take_snoc hd2, List.map_append]
          rfl
        · intro r hr'
          have off : ∀ {d : PyData} {k mm : Bool} {zz : Addr} {v : V}, noLD d = true → Dv mm zz F3 k v d → ∀ m, Dv m z (upd F3 W (.dK (putK (kvR L) (Sum.inl (momD q.2)) v'))) k v d := fun n h m => dv_tup (fun b xs h => (upd_ne fun e => by rw [e, hL6] at h; cases h).trans h) (fun b o xs h => (upd_ne fun e => by rw [e, hL6] at h; cases h).trans h) (sup hW sF6 _ _ (s1 _ _ hz)) _ _ _ n h
          rcases List.mem_append.mp hr' with h | h
          · obtain ⟨r1, r2, r3⟩ := (hr r h).to (But.of (z := z) (s4.trans (s5.trans s6)))
            exact ⟨off (noLD_deed r2) (r1 false), r2, r3⟩
          · rw [List.mem_singleton.mp h]
            have dd := deed_ord e
            exact ⟨off (noLD_deed dd) hv', dd, (momD_ord e).symm, ord_idem e, bd_ord e (eq_.2.2 e)⟩
        · rw [List.map_append]
          exact eb
      · rintro σ F ⟨⟨x3, x4, rfl⟩, sF, L, hL, e1, e2, hr, eb⟩
        rw [List.length_map] at e1 e2 eb
        rw [List.drop_of_length_le (by rw [List.length_map]; exact Nat.le_refl _)] at eb
        rw [List.take_of_length_le (by rw [List.length_map]; exact Nat.le_refl _)] at e1 e2
        have ll : L.length = A.length := by
          have := congrArg List.length e1
          rwa [List.length_map, List.length_map, List.length_map] at this
        obtain ⟨big, few⟩ := good eb
        refine ⟨_, rfl, W, _, rfl, hL, _, _, rfl, rfl, _, rfl, ?_⟩
        rw [kvR_len, ll]
        refine ite2 (fun e => ?_) fun e => ?_
        · have e := of_decide_eq_true e
          exact raisedO TT.ox TT.no ((big (by omega)).same (s1.trans sF))
        have l60 : A.length ≤ 60 := by
          have : ¬ ((60 : Int) < (A.length : Int)) := fun z => e (decide_eq_true z)
          omega
        refine ⟨_, rfl, W, _, L.map (·.1), rfl, .inl hL, kvR_keys L, by rw [List.length_map]; omega, fun ys p pm ps hp => ?_⟩
        have ey := sorted_is pm ps
        subst ey
        have hxF : F x = some (.ins C dx []) := sF _ _ (s1 _ _ hx)
        have px : p ≠ x := (ne_of_none hxF hp).symm
        have pW : p ≠ W := (ne_of_none hL hp).symm
        have hzF := sF _ _ (s1 _ _ hz)
        have pz : p ≠ z := (ne_of_none hzF hp).symm
        have Wz : W ≠ z := (ne_of_none (s1 _ _ hz) hW).symm
        have Wx : W ≠ x := (ne_of_none (s1 _ _ hx) hW).symm
        refine ⟨_, rfl, x, C, dx, [], rfl, (upd_ne px.symm).trans hxF, PC.cls, PC.n1, by decide, ?_⟩
        refine ⟨_, rfl, _, rfl, x, C, dx, _, rfl, upd_same, PC.cls, PC.n2, by show 1 < 1000; decide, ?_⟩
        have e9 : putF "_rows" (V.ref W) (putF "_moments" (V.ref p) []) = [(("_moments" : Str), V.ref p), (("_rows" : Str), V.ref W)] := rfl
        rw [e9]
        have bx : ButX x F (upd (upd (upd F p (.lst ((momL L).map V.int))) x (.ins C dx (putF "_moments" (V.ref p) []))) x (.ins C dx [(("_moments" : Str), V.ref p), (("_rows" : Str), V.ref W)])) := fun b o n hb => by
          rw [upd_ne n, upd_ne n]
          exact (upd_ne (ne_of_none hb hp)).trans hb
        refine few l60 L _ (fun b o n hb => bx b o n (sF _ _ (s1 _ _ hb))) ⟨dx, p, W, upd_same, none_back (s1.trans sF) hp⟩ ⟨dx, p, W, upd_same, ?_, bx _ _ Wx hL, zx.symm, pz, Wz, fun r h => ?_, ?_, by omega⟩ e1 e2
        · rw [upd_ne px, upd_ne px]
          exact upd_same
        · obtain ⟨r1, r2, r3⟩ := hr r h
          exact ⟨fun m => dv_tup (fun b xs h => bx b _ (fun e => by rw [e, hxF] at h; cases h) h) (fun b o xs h => bx b _ (fun e => by rw [e, hxF] at h; cases h) h) (bx _ _ zx hzF) _ _ _ (noLD_deed r2) (r1 false), r2, r3⟩
        · rw [e1]
          have := (bad_nodup eb (List.Pairwise.nil)).1
          rwa [List.nil_append] at this
    · refine .inr ⟨_, rfl, a, _, rfl, (sqF _ s12).2, for_it (walk_enumT (K := K) (a := a) (xs := A.map (·.1))) (fun i σ F => (∃ x3 x4, σ = [some (.ref x), some (.ref a), some (.ref W), x3, x4]) ∧ Same Ga F ∧ ∃ L : List RowD, F W = some (.dK (kvR L)) ∧ L.map (·.1) = ((A.map (·.2)).take i).map momD ∧ L.map rd = ((A.map (·.2)).take i).map inOrd ∧ (∀ r ∈ L, RP z F r) ∧ firstBad [] 0 (A.map (·.2)) = firstBad (L.map (·.1)) i ((A.map (·.2)).drop i)) ⟨⟨_, _, rfl⟩, s2, [], fW, by rw [List.take_zero]; rfl, by rw [List.take_zero]; rfl, (fun r h => by cases h), eb0⟩ (fun i σ F _ h => (sqF _ (s1.trans h.2.1)).2) ?_ ?_⟩
      · rintro i y σ F F' hi ⟨⟨x3, x4, rfl⟩, sF, L, hL, e1, e2, hr, eb⟩ ⟨T0, u, v, rfl, nT, rfl, hu', hv⟩
        cases hu'
        obtain ⟨q, hq, rfl⟩ := fst_get hv
        have mq := List.mem_of_getElem? hq
        have hd2 : (A.map (·.2))[i]? = some q.2 := by rw [List.getElem?_map, hq]; rfl
        have s4 := same_up (o := .tup [.int (i : Nat), q.1]) nT
        have sF4 := sF.trans s4
        have hL4 := s4 _ _ hL
        have eq_ := (hEl q mq).same (s1.trans sF4)
        rw [drop_get hd2] at eb
        refine ⟨T0, _, rfl, SqT.of upd_same, rfl, _, _, rfl, _, _, rfl, rfl, ?_⟩
        generalize upd F T0 (.tup [.int (i : Nat), q.1]) = F1 at s4 sF4 hL4 eq_ ⊢
        refine ⟨_, rfl, false, z, false, q.1, q.2, rfl, eq_.1, eq_.2.1, fun F2 s5 => ⟨_, rfl, ?_⟩⟩
        have sF5 := sF4.trans s5
        have eq5 := eq_.same s5
        refine ite2 (fun e => ?_) fun e => ?_
        · have e : isDeed q.2 = false := by simpa using e
          refine iteT (raised_v TP.ox TP.no rfl ((bad i ?_).same (s1.trans sF5)))
          rw [eb, bad_here (fun h => by rw [e] at h; exact absurd h.1 (by decide))]
        have e : isDeed q.2 = true := by simpa using e
        obtain ⟨a', vs', ev, ht⟩ := deed_head e (eq5.1)
        have hL5 := s5 _ _ hL4
        refine ⟨_, rfl, a', _, _, .int (momD q.2), ev ▸ rfl, rfl, ht.sq, atI_nat (j := 0) rfl, _, rfl, W, _, rfl, DGet.k (k := Sum.inl (momD q.2)) hL5, _, rfl, ?_⟩
        rw [valV_kvR, Option.isSome_map, find_some]
        refine ite2 (fun e3 => ?_) fun e3 => ?_
        · refine raised_v TP.ox TP.no rfl ((bad i ?_).same (s1.trans sF5))
          have e3 := of_decide_eq_true e3
          rw [eb, bad_here (fun h => h.2 e3)]
        have new : momD q.2 ∉ L.map (·.1) := fun h => e3 (decide_eq_true h)
        rw [bad_step e new] at eb
        refine ⟨_, rfl, false, z, false, q.1, q.2, rfl, ⟨_, sF5 _ _ (s1 _ _ hz)⟩, eq5.1, eq5.2.1, fun _ m' z' v' F3 s6 hv' => ?_, fun no => by rw [e] at no; cases no⟩
        have sF6 := sF5.trans s6
        have hL6 := s6 _ _ hL5
        have ht6 := ht.to (But.of (z := z) s6) (ht.ne_z (sF5 _ _ (s1 _ _ hz)))
        have ll : L.length ≤ i := by
          have := congrArg List.length e1
          rw [List.length_map, List.length_map, List.length_take] at this
          omega
        rw [List.length_map] at hi
        refine ⟨_, rfl, _, rfl, a', _, _, .int (momD q.2), ev ▸ rfl, rfl, ht6.sq, atI_nat (j := 0) rfl, W, _, rfl, DPut.k (k := Sum.inl (momD q.2)) hL6 (by rw [kvR_len]; exact small1000 (by omega)), ⟨_, _, rfl⟩, sup hW sF6, L ++ [(momD q.2, v', inOrd q.2)], ?_, ?_, ?_, ?_, ?_⟩
        · rw [upd_same, putK_new (d := inOrd q.2) new]
        · rw [List.map_append, e1, take_snoc hd2, List.map_append]
          rfl
        · rw [List.map_append, e2, take_snoc hd2, List.map_append]
          rfl
        · intro r hr'
          have off : ∀ {d : PyData} {k mm : Bool} {zz : Addr} {v : V}, noLD d = true → Dv mm zz F3 k v d → ∀ m, Dv m z (upd F3 W (.dK (putK (kvR L) (Sum.inl (momD q.2)) v'))) k v d := fun n h m => dv_tup (fun b xs h => (upd_ne fun e => by rw [e, hL6] at h; cases h).trans h) (fun b o xs h => (upd_ne fun e => by rw [e, hL6] at h; cases h).trans h) (sup hW sF6 _ _ (s1 _ _ hz)) _ _ _ n h
          rcases List.mem_append.mp hr' with h | h
          · obtain ⟨r1, r2, r3⟩ := (hr r h).to (But.of (z := z) (s4.trans (s5.trans s6)))
            exact ⟨off (noLD_deed r2) (r1 false), r2, r3⟩
          · rw [List.mem_singleton.mp h]
            have dd := deed_ord e
            exact ⟨off (noLD_deed dd) hv', dd, (momD_ord e).symm, ord_idem e, bd_ord e (eq_.2.2 e)⟩
        · rw [List.map_append]
          exact eb
      · rintro σ F ⟨⟨x3, x4, rfl⟩, sF, L, hL, e1, e2, hr, eb⟩
        rw [List.length_map] at e1 e2 eb
        rw [List.drop_of_length_le (by rw [List.length_map]; exact Nat.le_refl _)] at eb
        rw [List.take_of_length_le (by rw [List.length_map]; exact Nat.le_refl _)] at e1 e2
        have ll : L.length = A.length := by
          have := congrArg List.length e1
          rwa [List.length_map, List.length_map, List.length_map] at this
        obtain ⟨big, few⟩ := good eb
        refine ⟨_, rfl, W, _, rfl, hL, _, _, rfl, rfl, _, rfl, ?_⟩
        rw [kvR_len, ll]
        refine ite2 (fun e => ?_) fun e => ?_
        · have e := of_decide_eq_true e
          exact raisedO TT.ox TT.no ((big (by omega)).same (s1.trans sF))
        have l60 : A.length ≤ 60 := by
          have : ¬ ((60 : Int) < (A.length : Int)) := fun z => e (decide_eq_true z)
          omega
        refine ⟨_, rfl, W, _, L.map (·.1), rfl, .inl hL, kvR_keys L, by rw [List.length_map]; omega, fun ys p pm ps hp => ?_⟩
        have ey := sorted_is pm ps
        subst ey
        have hxF : F x = some (.ins C dx []) := sF _ _ (s1 _ _ hx)
        have px : p ≠ x := (ne_of_none hxF hp).symm
        have pW : p ≠ W := (ne_of_none hL hp).symm
        have hzF := sF _ _ (s1 _ _ hz)
        have pz : p ≠ z := (ne_of_none hzF hp).symm
        have Wz : W ≠ z := (ne_of_none (s1 _ _ hz) hW).symm
        have Wx : W ≠ x := (ne_of_none (s1 _ _ hx) hW).symm
        refine ⟨_, rfl, x, C, dx, [], rfl, (upd_ne px.symm).trans hxF, PC.cls, PC.n1, by decide, ?_⟩
        refine ⟨_, rfl, _, rfl, x, C, dx, _, rfl, upd_same, PC.cls, PC.n2, by show 1 < 1000; decide, ?_⟩
        have e9 : putF "_rows" (V.ref W) (putF "_moments" (V.ref p) []) = [(("_moments" : Str), V.ref p), (("_rows" : Str), V.ref W)] := rfl
        rw [e9]
        have bx : ButX x F (upd (upd (upd F p (.lst ((momL L).map V.int))) x (.ins C dx (putF "_moments" (V.ref p) []))) x (.ins C dx [(("_moments" : Str), V.ref p), (("_rows" : Str), V.ref W)])) := fun b o n hb => by
          rw [upd_ne n, upd_ne n]
          exact (upd_ne (ne_of_none hb hp)).trans hb
        refine few l60 L _ (fun b o n hb => bx b o n (sF _ _ (s1 _ _ hb))) ⟨dx, p, W, upd_same, none_back (s1.trans sF) hp⟩ ⟨dx, p, W, upd_same, ?_, bx _ _ Wx hL, zx.symm, pz, Wz, fun r h => ?_, ?_, by omega⟩ e1 e2
        · rw [upd_ne px, upd_ne px]
          exact upd_same
        · obtain ⟨r1, r2, r3⟩ := hr r h
          exact ⟨fun m => dv_tup (fun b xs h => bx b _ (fun e => by rw [e, hxF] at h; cases h) h) (fun b o xs h => bx b _ (fun e => by rw [e, hxF] at h; cases h) h) (bx _ _ zx hzF) _ _ _ (noLD_deed r2) (r1 false), r2, r3⟩
        · rw [e1]
          have := (bad_nodup eb (List.Pairwise.nil)).1
          rwa [List.nil_append] at this
end
end Pl

namespace Pl
open L2 PySem PySem.Spec PyProof.Rows
/-! ### what a past tells -/
def leR (a b : RowD) : Bool := decide (a.1 ≤ b.1)
def sortR (L : List RowD) : List RowD := L.mergeSort leR
theorem sortR_perm (L : List RowD) : (sortR L).Perm L := List.mergeSort_perm _ _
theorem momL_sort (L : List RowD) : momL L = (sortR L).map (·.1) := (List.map_mergeSort (f := fun r : RowD => r.1) (r := leR) (s := fun a b : Int => decide (a ≤ b)) fun a _ b _ => rfl).symm
theorem find_in : ∀ {L : List RowD} {r : RowD}, (L.map (·.1)).Nodup → r ∈ L → findR L r.1 = some r
  | q :: L, r, nd, h => by
    rw [List.map_cons, List.nodup_cons] at nd; skip
    unfold findR
    rw [List.find?_cons]
    by_cases e : q.1 = r.1
    · rw [decide_eq_true e]
      rcases List.mem_cons.mp h with rfl | h; skip
      · rfl
      · exact absurd (List.mem_map.mpr ⟨r, h, e.symm⟩) nd.1
    · rw [decide_eq_false e]
      rcases List.mem_cons.mp h with rfl | h; skip
      · exact absurd rfl e
      · exact find_in nd.2 h
abbrev sDeeds_ : Stmt := inClass (top 34) 1
abbrev sGetI : Stmt := inClass (top 34) 2
abbrev sCont : Stmt := inClass (top 34) 3
abbrev sLen_ : Stmt := inClass (top 34) 4
abbrev sListed : Stmt := inClass (top 34) 6
abbrev sEq_ : Stmt := inClass (top 34) 7
abbrev sWith : Stmt := inClass (top 34) 8
abbrev sWithout : Stmt := inClass (top 34) 9
def spDs (C : Addr) : Sp := fun vs H Q _ => ∃ (p z : Addr) (L : List RowD), vs = [.ref p] ∧ PastAt C z H p L ∧ ∀ q G, H q = none → Same H G → G q = some (.lst ((sortR L).map rv)) → Q (.ref q) G
def spLst (C : Addr) : Sp := fun vs H Q _ => ∃ (p z : Addr) (L : List RowD), vs = [.ref p] ∧ PastAt C z H p L ∧ ∀ q G, H q = none → Same H G → G q = some (.lst ((momL L).map V.int)) → Q (.ref q) G
def spLn (C : Addr) : Sp := fun vs H Q _ => ∃ (p z : Addr) (L : List RowD), vs = [.ref p] ∧ PastAt C z H p L ∧ Q (.int (L.length : Nat)) H
/-- is it one of the moments -/
def inP (L : List RowD) : PyData → Bool
  | .int i => decide (i ∈ L.map (·.1))
  | _ => false
def spCont (C : Addr) : Sp := fun vs H Q _ => ∃ (p z z' : Addr) (m k : Bool) (v : V) (d : PyData) (L : List RowD), vs = [.ref p, v] ∧ PastAt C z H p L ∧ Dv m z' H k v d ∧ d.weight ≤ 1000 ∧ ∀ G, Same H G → Q (.bl (inP L d)) G
section
variable {P : Program} {w : World} {K : PySem.W.Frag} {mg : Str → Option Value} {base : Heap} {C : Addr}
theorem PastAt.same {z p : Addr} {H G : Hp} {L : List RowD} (h : PastAt C z H p L) (s : Same H G) : PastAt C z G p L := h.to (But.of s)
theorem momL_len (L : List RowD) : (momL L).length = L.length := by
  unfold momL
  rw [List.length_mergeSort, List.length_map]
theorem scDs : FnScope ["self", "moment"] ["self"] (defScope sDeeds_) := ⟨rfl, rfl, rfl, by decide +kernel, rfl, by decide +kernel, by decide +kernel⟩
theorem ok_pdeeds {f : Addr} {fd : FuncData} (F : Fun K "deeds" "Past.deeds" sDeeds_ f fd) (PC : PstC K C) : FnOk P w K mg base CX0 1 f fd ["self"] (spDs C) := by
  refine F.ok scDs (fun vs H Q E h => ?_) (fun cdv A outer s H vs Q E hr h => ?_)
  · obtain ⟨p, z, L, rfl, _⟩ := h
    rfl
  · obtain ⟨p, z, L, rfl, hp, q⟩ := h
    have hu : (A.deeper (envOfC "Past.deeds" (defScope sDeeds_) s.heap.objs.size f cdv)).units + 1 < cLine := by
      have := hr.un
      omega
    refine ⟨_, pss_one (ps_ret (pe_lc (own := [("moment", 1)]) (g := gName 1) (tt := tYes) rfl scDs.nd (pi_list (pe_fld (pv 0) (by rfl))) (blkOk_by (own := [("moment", 1)]) (N := ["self", "moment"]) (sc := defScope sDeeds_) (by decide +kernel))
      (fun _ _ _ _ _ => pg_name (i := 1) scDs.nd rfl (Or.inl rfl)) (fun _ _ _ _ _ => pts_nil) (fun _ _ _ _ _ => pe_dget hu (show PE _ _ (tFld K (tVar 0) "_rows") from pe_fld (pv 0) (by rfl)) (pv 1) (fun _ _ => rfl)))), ?_⟩
    obtain ⟨dx, pm, pd, h1, h2, h3, n1, n2, n3, hr', nd, l⟩ := id hp
    refine ⟨_, rfl, p, C, dx, _, .ref pm, rfl, h1, PC.cls, PC.n1, rfl, pm, rfl, ⟨_, SqL.of h2⟩, fun D hD => ?_⟩
    have s0 := same_up (o := .lst []) hD
    refine lc_list (K := K) (a := pm) (xs := (momL L).map V.int) (fun i F => Same H F ∧ F D = some (.lst (((sortR L).take i).map rv))) ⟨s0, by rw [List.take_zero]; exact upd_same⟩ (fun _ _ _ g => SqL.of (g.1 _ _ h2)) ?_ ?_
    · rintro i y F hy ⟨sF, hD'⟩
      rw [momL_sort, List.map_map] at hy
      obtain ⟨r, hr2, ey⟩ : ∃ r, (sortR L)[i]? = some r ∧ V.int r.1 = y := by
        rw [List.getElem?_map] at hy
        exact Option.map_eq_some_iff.mp hy
      subst ey
      have rL := (sortR_perm L).mem_iff.mp (List.mem_of_getElem? hr2)
      refine ⟨rfl, yesT ?_⟩
      have g := DGet.k (k := Sum.inl r.1) (sF _ _ h3)
      rw [valV_kvR, find_in nd rL] at g
      refine ⟨_, rfl, p, C, dx, _, .ref pd, rfl, sF _ _ h1, PC.cls, PC.n2, rfl, _, rfl, pd, rv r, rfl, g, _, hD', ?_, sup hD sF, ?_⟩
      · rw [List.length_map, List.length_take]; skip
        exact small1000 (by have := (sortR_perm L).length_eq; omega)
      · rw [upd_same, take_snoc hr2, List.map_append]
        rfl
    · rintro F ⟨sF, hD'⟩
      rw [List.length_map, momL_len, ← (sortR_perm L).length_eq, List.take_length] at hD'
      exact q D F hD sF hD'
theorem scLst : FnScope ["self"] ["self"] (defScope sListed) := ⟨rfl, rfl, rfl, by decide +kernel, rfl, by decide +kernel, by decide +kernel⟩
theorem ok_plisted {f : Addr} {fd : FuncData} (F : Fun K "listed" "Past.listed" sListed f fd) (T2 : Cs2 mg) (PC : PstC K C) : FnOk P w K mg base CX0 1 f fd ["self"] (spLst C) := by
  refine F.ok scLst (fun vs H Q E h => ?_) (fun cdv A outer s H vs Q E hr h => ?_)
  · obtain ⟨p, z, L, rfl, _⟩ := h
    rfl
  · obtain ⟨p, z, L, rfl, hp, q⟩ := h
    refine ⟨_, pss_one (ps_ret (pe_callTy call_list_of (by rfl) T2.lst (by decide +kernel) (pa_cons (pe_fld (pv 0) (by rfl)) pa_nil))), ?_⟩
    obtain ⟨dx, pm, pd, h1, h2, h3, n1, n2, n3, hr', nd, l⟩ := id hp
    exact ⟨_, rfl, p, C, dx, _, .ref pm, rfl, h1, PC.cls, PC.n1, rfl, pm, _, rfl, .inl (SqL.of h2), fun q' hq => q q' _ hq (same_up hq) upd_same⟩
theorem scLn : FnScope ["self"] ["self"] (defScope sLen_) := ⟨rfl, rfl, rfl, by decide +kernel, rfl, by decide +kernel, by decide +kernel⟩
theorem ok_plen {f : Addr} {fd : FuncData} (F : Fun K "__len__" "Past.__len__" sLen_ f fd) (T : Cst K mg) (PC : PstC K C) : FnOk P w K mg base CX0 1 f fd ["self"] (spLn C) := by
  refine F.ok scLn (fun vs H Q E h => ?_) (fun cdv A outer s H vs Q E hr h => ?_)
  · obtain ⟨p, z, L, rfl, _⟩ := h
    rfl
  · obtain ⟨p, z, L, rfl, hp, q⟩ := h
    refine ⟨_, pss_one (ps_ret (pe_callB call_len_seq (by rfl) T.len PySem.boot_len (pa_cons (pe_fld (pv 0) (by rfl)) pa_nil))), ?_⟩
    obtain ⟨dx, pm, pd, h1, h2, h3, n1, n2, n3, hr', nd, l⟩ := id hp
    refine ⟨_, rfl, p, C, dx, _, .ref pm, rfl, h1, PC.cls, PC.n1, rfl, pm, _, rfl, .inl (SqL.of h2), ?_⟩
    rw [List.length_map, momL_len]
    exact q
theorem scCont : FnScope ["self", "x"] ["self", "x"] (defScope sCont) := ⟨rfl, rfl, rfl, by decide +kernel, rfl, by decide +kernel, by decide +kernel⟩
theorem ok_pcont {f : Addr} {fd : FuncData} (F : Fun K "__contains__" "Past.__contains__" sCont f fd) (PC : PstC K C) (D1 : Df P w K mg base 1 "is_number" ["value"] (spP isNum)) : FnOk P w K mg base CX0 2 f fd ["self", "x"] (spCont C) := by
  obtain ⟨e1, fd1, G1, m1, k1, b1⟩ := D1.ex
  refine F.ok scCont (fun vs H Q E h => ?_) (fun cdv A outer s H vs Q E hr h => ?_)
  · obtain ⟨p, z, z', m, k, v, d, L, rfl, _⟩ := h
    rfl
  · obtain ⟨p, z, z', m, k, v, d, L, rfl, hp, hd, hw, q⟩ := h
    have hu : (A.deeper (envOfC "Past.__contains__" (defScope sCont) s.heap.objs.size f cdv)).units + 1 < cLine := by
      have := hr.un
      omega
    refine ⟨_, pss_one (ps_ret (pe_and (pe_call G1 hr (by rfl) m1 k1 b1 .nil pass0 (pa_cons (pv 1) pa_nil)) (pe_one (pe_cmp (pc_din hu (pv 1) (pe_fld (pv 0) (by rfl))))))), ?_⟩
    refine ⟨v, rfl, m, z', k, v, d, rfl, hd, hw, fun G s1 => ⟨_, rfl, ?_⟩⟩
    refine ite2 (fun e => ?_) fun e => ?_
    · obtain ⟨i, rfl⟩ := isNum_inv e
      cases hd
      obtain ⟨dx, pm, pd, h1, h2, h3, n1, n2, n3, hr', nd, l⟩ := hp.same s1
      refine ⟨_, rfl, _, rfl, p, C, dx, _, .ref pd, rfl, h1, PC.cls, PC.n2, rfl, pd, _, rfl, DGet.k (k := Sum.inl i) h3, ?_⟩
      rw [valV_kvR, Option.isSome_map, find_some]
      exact q G s1
    · have : inP L d = false := by
        cases d <;> first | rfl | exact absurd rfl e
      rw [← this]
      exact q G s1
end
end Pl

namespace Pl
open L2 PySem PySem.Spec PyProof.Rows
/-- a method of an own class, as its callers see it -/
structure MetC (P : Program) (w : World) (K : PySem.W.Frag) (mg : Str → Option Value) (base : Heap) (CX : CXT) (C : Addr) (m : Str) (k : Nat) (ps : List Str) (sp : Sp) : Prop where
  ex : ∃ (f : Addr) (fd : FuncData), FnOk P w K mg base CX k f fd ps sp ∧ Meth K C m f ∧ Binds K fd ps [] ∧ PySem.W.fnIn K f = true
/-- how the class is made -/
structure MkP (P : Program) (w : World) (K : PySem.W.Frag) (mg : Str → Option Value) (base : Heap) (C CP CT : Addr) : Prop where
  ex : ∃ (f : Addr) (fd : FuncData), Mk K C f ∧ FnOk P w K mg base (L2.CX P w) 10 f fd ["self", "deeds"] (spPInit K C CP CT) ∧ mg "Past" = some (.ref C) ∧ Binds K fd ["self", "deeds"] []
theorem MetC.dun {X : Cx} {CX : CXT} {C : Addr} {m : Str} {k : Nat} {ps : List Str} {sp : Sp} {E : XK} (M : MetC X.prog X.w X.K X.mg X.base CX C m k ps sp) (h : Passes CX X E) : Dun X CX C m k ps sp E := by
  obtain ⟨f, fd, F, me, b, _⟩ := M.ex
  exact ⟨⟨f, fd, F, me.at_, me.fn, b⟩, h⟩
theorem good_rows : ∀ {ds : List PyData} {seen : List Int} {i : Nat}, (∀ d ∈ ds, isDeed d = true) → (seen ++ ds.map momD).Nodup → firstBad seen i ds = none
  | [], _, _, _, _ => rfl
  | d :: ds, seen, i, h, n => by
    rw [List.map_cons] at n
    have nd : momD d ∉ seen := fun hm => (List.nodup_append.mp n).2.2 _ hm _ List.mem_cons_self rfl
    rw [bad_step (h d List.mem_cons_self) nd]
    refine good_rows (fun e he => h e (List.mem_cons_of_mem _ he)) ?_
    rw [List.append_assoc]
    exact n
def spGet (C CM : Addr) : Sp := fun vs H Q E => ∃ (p z z' : Addr) (m k : Bool) (v : V) (d : PyData) (L : List RowD), vs = [.ref p, v] ∧ PastAt C z H p L ∧ Dv m z' H k v d ∧ d.weight ≤ 1000 ∧ (inP L d = false → Rais CM v H E) ∧ ∀ r ∈ L, d = .int r.1 → ∀ G, Same H G → Q (rv r) G
def spEqP (K : PySem.W.Frag) (C : Addr) : Sp := fun vs H Q _ => ∃ (p z : Addr) (y : V) (L : List RowD), vs = [.ref p, y] ∧ PastAt C z H p L ∧ ((∃ p' z' M, y = .ref p' ∧ PastAt C z' H p' M ∧ Q (.bl (eqRows L M)) H) ∨ ∃ T : String, TyX K H y (.type T) ∧ PySem.W.kitOne K (.type T) (.ref C) = some false ∧ Q (.bl false) H)
def spWith (C CD CM CT : Addr) : Sp := fun vs H Q E => ∃ (p z : Addr) (v : V) (d : PyData) (L : List RowD), vs = [.ref p, v] ∧ PastAt C z H p L ∧ El z H (v, d) ∧ (∃ ys, H z = some (.lst ys)) ∧ (isDeed d = false → Rais CD v H E) ∧ (isDeed d = true → momD d ∈ L.map (·.1) → Rais CM (.int (momD d)) H E) ∧
  (isDeed d = true → momD d ∉ L.map (·.1) → (L.length = 60 → RaisO CT (.int 60) H E) ∧ (L.length < 60 → ∀ x M G, Same H G → H x = none → PastAt C z G x M → M.map (·.1) = (sortR L).map (·.1) ++ [momD d] → M.map rd = (sortR L).map rd ++ [inOrd d] → Q (.ref x) G))
def outR (L : List RowD) (m : Int) : List RowD := (sortR L).filter fun q => decide (q.1 ≠ m)
def spWo (C CM : Addr) : Sp := fun vs H Q E => ∃ (p z z' : Addr) (m k : Bool) (v : V) (d : PyData) (L : List RowD), vs = [.ref p, v] ∧ PastAt C z H p L ∧ (∃ ys, H z = some (.lst ys)) ∧ Dv m z' H k v d ∧ d.weight ≤ 1000 ∧ (inP L d = false → Rais CM v H E) ∧
  ∀ r ∈ L, d = .int r.1 → ∀ x M G, Same H G → H x = none → PastAt C z G x M → M.map (·.1) = (outR L r.1).map (·.1) → M.map rd = (outR L r.1).map rd → Q (.ref x) G
theorem in_of {L : List RowD} {d : PyData} (h : inP L d = true) : ∃ r ∈ L, d = .int r.1 := by
  cases d with
  | int i =>
    obtain ⟨r, hr, e⟩ := List.mem_map.mp (of_decide_eq_true h)
    exact ⟨r, hr, by rw [← e]⟩
  | _ => cases h
theorem RP.el {z : Addr} {H : Hp} {r : RowD} (h : RP z H r) : El z H r.2 := ⟨h.1 false, Nat.le_trans h.2.2.2.2.w (by decide), fun _ => h.2.2.2.2⟩
section
variable {P : Program} {w : World} {K : PySem.W.Frag} {mg : Str → Option Value} {base : Heap} {C CD CM CP CT : Addr}
theorem scGetI : FnScope ["self", "at"] ["self", "at"] (defScope sGetI) := ⟨rfl, rfl, rfl, by decide +kernel, rfl, by decide +kernel, by decide +kernel⟩
theorem ok_pget {f : Addr} {fd : FuncData} (F : Fun K "__getitem__" "Past.__getitem__" sGetI f fd) (PC : PstC K C) (MM : MakN P w K mg base "NoMoment" CM) (DC : MetC P w K mg base CX0 C "__contains__" 2 ["self", "x"] (spCont C)) : FnOk P w K mg base (L2.CX P w) 3 f fd ["self", "at"] (spGet C CM) := by
  obtain ⟨fM, fdM, TM, GM, bM⟩ := MM.ex
  refine F.okX scGetI (fun vs H Q E h => ?_) (fun cdv A outer s H vs Q E hr h => ?_)
  · obtain ⟨p, z, z', m, k, v, d, L, rfl, _⟩ := h
    rfl
  · obtain ⟨p, z, z', m, k, v, d, L, rfl, hp, hd, hw, bad, good⟩ := h
    have hu : (A.deeper (envOfC "Past.__getitem__" (defScope sGetI) s.heap.objs.size f cdv)).units + 1 < cLine := by
      have := hr.un
      omega
    refine ⟨_, pss_cons (ps_if (pt_cmpR (op_notInO (DC.dun (E := E0) pass0) hr) (pv 1) (pv 0) (by rfl))
        (pss_one (ps_raise rfl (takes_of rfl rfl rfl rfl) (pmk_oex TM.ox TM.iC TM.tI GM (hr.mono (by decide)) bM .nil pass0 (by rfl) TM.gC (pa_cons (pv 1) pa_nil)))) pss_nil)
      (pss_one (ps_ret (pe_dget hu (pe_fld (pv 0) (by rfl)) (pv 1) (fun _ _ => rfl)))), ?_⟩
    obtain ⟨dx, pm, pd, h1, h2, h3, n1, n2, n3, hr', nd, l⟩ := id hp
    refine ⟨v, rfl, _, rfl, p, dx, _, rfl, h1, p, z, z', m, k, v, d, L, rfl, hp, hd, hw, fun G s1 => ⟨_, rfl, _, rfl, ?_⟩⟩
    cases e : inP L d with
    | false => exact iteT (raised_v TM.ox TM.no rfl ((bad e).same s1))
    | true =>
      refine iteF ?_
      obtain ⟨r, hr2, rfl⟩ := in_of e
      cases hd
      have g := DGet.k (k := Sum.inl r.1) (s1 _ _ h3)
      rw [valV_kvR, find_in nd hr2] at g
      exact ⟨_, rfl, p, C, dx, _, .ref pd, rfl, s1 _ _ h1, PC.cls, PC.n2, rfl, _, rfl, pd, rv r, rfl, g, good r hr2 rfl G s1⟩
theorem scEqP : FnScope ["self", "other"] ["self", "other"] (defScope sEq_) := ⟨rfl, rfl, rfl, by decide +kernel, rfl, by decide +kernel, by decide +kernel⟩
theorem ok_peq {f : Addr} {fd : FuncData} (F : Fun K "__eq__" "Past.__eq__" sEq_ f fd) (T : Cst K mg) (PC : PstC K C) (IC : C8.InsC K C) (hC : mg "Past" = some (.ref C)) : FnOk P w K mg base CX0 1 f fd ["self", "other"] (spEqP K C) := by
  refine F.ok scEqP (fun vs H Q E h => ?_) (fun cdv A outer s H vs Q E hr h => ?_)
  · obtain ⟨p, z, y, L, rfl, _⟩ := h
    rfl
  · obtain ⟨p, z, y, L, rfl, hp, cs⟩ := h
    have hu : (A.deeper (envOfC "Past.__eq__" (defScope sEq_) s.heap.objs.size f cdv)).units + 65 < cLine := by
      have := hr.un
      omega
    refine ⟨_, pss_one (ps_ret (pe_and (pe_callB call_isi (by rfl) T.isi (by decide +kernel) (pa_cons (pv 1) (pa_cons (pe_glob (v := .ref C) (by rfl) hC rfl) pa_nil)))
      (pe_one (pe_cmpR (op_eqR hu) (pe_fld (pv 0) (by rfl)) (pe_fld (pv 1) (by rfl)) (nomark _))))), ?_⟩
    rcases cs with ⟨p', z', M, rfl, hp', q⟩ | ⟨T', ty, no, q⟩
    · obtain ⟨dx, pm, pd, h1, h2, h3, n1, n2, n3, hr', nd, l⟩ := id hp
      obtain ⟨dx', pm', pd', h1', h2', h3', n1', n2', n3', hr'', nd', l'⟩ := id hp'
      have ok : ∀ {z : Addr} {r : RowD}, RP z H r → Dp K H (rv r) (rd r) ∧ okL (rd r) := fun h => ⟨Dv.dp _ _ _ (h.1 false), bd_okL h.2.1 h.2.2.2.2 (by decide)⟩
      refine ⟨_, rfl, .ref p', _, _, _, _, rfl, .own C, .base (.ins h1' IC.cl IC.ha IC.hn IC.htk IC.hm), IC.me, _, rfl, iteT ?_⟩
      exact ⟨_, rfl, p, C, dx, _, .ref pd, rfl, h1, PC.cls, PC.n2, rfl, _, rfl, p', C, dx', _, .ref pd', rfl, h1', PC.cls, PC.n2, rfl, pd, pd', L, M, rfl, rfl, h3, h3', (fun r h => ok (hr' r h)), (fun r h => ok (hr'' r h)), q⟩
    · exact ⟨_, rfl, y, _, _, _, _, rfl, .own C, ty, no, _, rfl, iteF q⟩
end
end Pl

namespace Pl
open L2 PySem PySem.Spec PyProof.Rows
/-- what is asked of the argument of Past(..), and what comes of it -/
def PastArg (K : PySem.W.Frag) (C CP CT : Addr) (v : V) (H : Hp) (Q : VK) (E : XK) : Prop :=
  (∃ kd : String, (∀ G, Same H G → TyX K G v (.type kd)) ∧ PySem.W.kitAny K (.type kd) [.type "list", .type "tuple"] = some false ∧ Rais CP .non H E) ∨
   ∃ (a z : Addr) (A : List (V × PyData)), v = .ref a ∧ ((∀ G, Same H G → TyX K G (.ref a) (.type "list") ∧ SqL K G a (A.map (·.1))) ∨ ∀ G, Same H G → TyX K G (.ref a) (.type "tuple") ∧ SqT K G a (A.map (·.1))) ∧ (∃ ys, H z = some (.lst ys)) ∧ A.length ≤ 61 ∧ (∀ q ∈ A, El z H q) ∧
    (∀ i, firstBad [] 0 (A.map (·.2)) = some i → Rais CP (.int i) H E) ∧
    (firstBad [] 0 (A.map (·.2)) = none → (60 < A.length → RaisO CT (.int 60) H E) ∧
      (A.length ≤ 60 → ∀ x (L : List RowD) G, Same H G → H x = none → PastAt C z G x L → L.map (·.1) = (A.map (·.2)).map momD → L.map rd = (A.map (·.2)).map inOrd → Q (.ref x) G))
theorem mk_past {K : PySem.W.Frag} {C CP CT : Addr} {v : V} {H : Hp} {Q : VK} {E : XK} (h : PastArg K C CP CT v H Q E) : ∀ x dx, H x = none → H dx = none → dx ≠ x → spPInit K C CP CT (.ref x :: ([v] ++ [])) (upd (upd H dx (.own x)) x (.ins C dx [])) (fun u H2 => u = .non ∧ Q (.ref x) H2) E := by
  intro x dx hx hd ne
  have s1 : Same H (upd (upd H dx (.own x)) x (.ins C dx [])) := fun b o hb => by
    rw [upd_ne (ne_of_none hb hx), upd_ne (ne_of_none hb hd)]
    exact hb
  refine ⟨x, dx, v, rfl, upd_same, ?_⟩
  rcases h with ⟨kd, ty, no, r⟩ | ⟨a, z, A, rfl, hA, ⟨ys, hz⟩, lA, hEl, bad, good⟩
  · exact .inl ⟨kd, fun G s => ty G (s1.trans s), no, r.same s1⟩
  · refine .inr ⟨a, z, A, rfl, ?_, (ne_of_none hz hx), ⟨ys, s1 _ _ hz⟩, lA, fun q hq => (hEl q hq).same s1, fun i e => (bad i e).same s1, fun e => ⟨fun l => ((good e).1 l).same s1, fun l L G bx _ pa e1 e2 => ⟨rfl, ?_⟩⟩⟩
    · rcases hA with h | h
      · exact .inl fun G s => h G (s1.trans s)
      · exact .inr fun G s => h G (s1.trans s)
    · refine (good e).2 l x L G (fun b o hb => bx b o (ne_of_none hb hx) (s1 _ _ hb)) hx pa e1 e2
theorem past_lst {K : PySem.W.Frag} {H : Hp} {a : Addr} {xs : List V} (h : H a = some (.lst xs)) : ∀ G, Same H G → TyX K G (.ref a) (.type "list") ∧ SqL K G a xs := fun G s => ⟨.base (.lst (s _ _ h)), SqL.of (s _ _ h)⟩
theorem rows_mom {z : Addr} {H : Hp} {L : List RowD} (h : ∀ r ∈ L, RP z H r) : (L.map rd).map momD = L.map (·.1) := by
  rw [List.map_map]
  exact List.map_congr_left fun r hr => (h r hr).2.2.1.symm
theorem rows_ord {z : Addr} {H : Hp} {L : List RowD} (h : ∀ r ∈ L, RP z H r) : (L.map rd).map inOrd = L.map rd := by
  rw [List.map_map]
  exact List.map_congr_left fun r hr => (h r hr).2.2.2.1
theorem snd_rd (L : List RowD) : (L.map (·.2)).map (·.2) = L.map rd := by
  rw [List.map_map]
  rfl
theorem snd_rv (L : List RowD) : (L.map (·.2)).map (·.1) = L.map rv := by
  rw [List.map_map]
  rfl
section
variable {P : Program} {w : World} {K : PySem.W.Frag} {mg : Str → Option Value} {base : Heap} {C CD CM CP CT : Addr}
theorem scWith : FnScope ["self", "deed"] ["self", "deed"] (defScope sWith) := ⟨rfl, rfl, rfl, by decide +kernel, rfl, by decide +kernel, by decide +kernel⟩
theorem ok_pwith {f : Addr} {fd : FuncData} (F : Fun K "with_deed" "Past.with_deed" sWith f fd) (PC : PstC K C) (MP : MkP P w K mg base C CP CT) (ME : MakN P w K mg base "NoDeed" CD) (MM : MakN P w K mg base "NoMoment" CM)
    (D1 : Df P w K mg base 7 "is_deed" ["value"] (spP isDeed)) (DD : MetC P w K mg base CX0 C "deeds" 1 ["self"] (spDs C)) : FnOk P w K mg base (L2.CX P w) 12 f fd ["self", "deed"] (spWith C CD CM CT) := by
  obtain ⟨e1, fd1, G1, m1, k1, b1⟩ := D1.ex
  obtain ⟨fE, fdE, TE_, GE, bE⟩ := ME.ex
  obtain ⟨fM, fdM, TM, GM, bM⟩ := MM.ex
  obtain ⟨fN, fdN, mkN, GN, hN, bN⟩ := MP.ex
  obtain ⟨fS, fdS, GS, meS, bS, _⟩ := DD.ex
  refine F.okX scWith (fun vs H Q E h => ?_) (fun cdv A outer s H vs Q E hr h => ?_)
  · obtain ⟨p, z, v, d, L, rfl, _⟩ := h
    rfl
  · obtain ⟨p, z, v, d, L, rfl, hp, hd, ⟨ys, hz⟩, bad, twice, good⟩ := h
    have hu : (A.deeper (envOfC "Past.with_deed" (defScope sWith) s.heap.objs.size f cdv)).units + 1 < cLine := by
      have := hr.un
      omega
    refine ⟨_, pss_cons (ps_if (pt_not (pt_val (pe_call G1 (hr.mono (by decide)) (by rfl) m1 k1 b1 .nil pass0 (pa_cons (pv 1) pa_nil))))
        (pss_one (ps_raise rfl (takes_of rfl rfl rfl rfl) (pmk_oex TE_.ox TE_.iC TE_.tI GE (hr.mono (by decide)) bE .nil pass0 (by rfl) TE_.gC (pa_cons (pv 1) pa_nil)))) pss_nil)
      (pss_cons (ps_if (pt_cmp (pc_din hu (pe_ix (show IxR _ (rIxT K) from ix_tup) (pv 1) pe_int (fun _ _ => rfl)) (pe_fld (pv 0) (by rfl))))
        (pss_one (ps_raise rfl (takes_of rfl rfl rfl rfl) (pmk_oex TM.ox TM.iC TM.tI GM (hr.mono (by decide)) bM .nil pass0 (by rfl) TM.gC (pa_cons (pe_ix (show IxR _ (rIxT K) from ix_tup) (pv 1) pe_int (fun _ _ => rfl)) pa_nil)))) pss_nil)
      (pss_one (ps_ret (pe_make (E := E) mkN GN hr (by rfl) hN bN .nil (passes_call (takes_of rfl rfl rfl rfl) fun _ _ _ _ h => h)
        (pa_cons (pe_op op_cat (pe_meth0 (pv 0) PC.cls meS GS (hr.mono (by decide)) bS .nil pass0) (pe_lst (pa_cons (pv 1) pa_nil))) pa_nil))))), ?_⟩
    refine ⟨v, rfl, false, z, false, v, d, rfl, hd.1, hd.2.1, fun G s1 => ⟨_, rfl, ?_⟩⟩
    have hp1 := hp.same s1
    have hd1 := hd.same s1
    have hz1 := s1 _ _ hz
    refine ite2 (fun e => ?_) fun e => ?_
    · have e : isDeed d = false := by simpa using e
      exact raised_v TE_.ox TE_.no rfl ((bad e).same s1)
    have e : isDeed d = true := by simpa using e
    obtain ⟨a, vs, ev, ht⟩ := deed_head e (hd1.1)
    subst ev
    obtain ⟨dx, pm, pd, h1, h2, h3, n1, n2, n3, hr', nd, l⟩ := id hp1
    refine ⟨_, rfl, a, _, _, .int (momD d), rfl, rfl, ht.sq, atI_nat (j := 0) rfl, _, rfl, p, C, dx, _, .ref pd, rfl, h1, PC.cls, PC.n2, rfl, pd, _, rfl, DGet.k (k := Sum.inl (momD d)) h3, _, rfl, ?_⟩
    rw [valV_kvR, Option.isSome_map, find_some]
    refine ite2 (fun e3 => ?_) fun e3 => ?_
    · have e3 := of_decide_eq_true e3
      exact raised TM.ox TM.no (fun k hk => ⟨_, rfl, a, _, _, .int (momD d), rfl, rfl, ht.sq, atI_nat (j := 0) rfl, hk⟩) ((twice e e3).same s1)
    have new : momD d ∉ L.map (·.1) := fun h => e3 (decide_eq_true h)
    obtain ⟨full, few⟩ := good e new
    have pmS := sortR_perm L
    have pm1 : (sortR L).map (·.1) |>.Perm (L.map (·.1)) := pmS.map _
    have hrS : ∀ r ∈ sortR L, RP z G r := fun r h => hr' r (pmS.mem_iff.mp h)
    refine ⟨.ref p, rfl, p, dx, _, rfl, h1, rfl, p, z, L, rfl, hp1, fun q G1 hq s2 hq1 => ⟨_, rfl, by show 1 ≤ sizeLine; decide, fun o ho => ?_⟩⟩
    have s3 := same_up (o := .lst [.ref a]) ho
    refine ⟨q, o, _, _, rfl, rfl, s3 _ _ hq1, upd_same, ?_, fun c hc => ?_⟩
    · rw [List.length_map, List.length_singleton]
      exact Nat.le_of_lt (small1000 (by have := pmS.length_eq; omega))
    have s4 := same_up (o := .lst ((sortR L).map rv ++ [.ref a])) hc
    have sA := s2.trans (s3.trans s4)
    have hc1 : upd (upd G1 o (.lst [.ref a])) c (.lst ((sortR L).map rv ++ [.ref a])) c = _ := upd_same
    generalize upd (upd G1 o (.lst [.ref a])) c (.lst ((sortR L).map rv ++ [.ref a])) = G2 at sA hc1 ⊢
    refine mk_past (.inr ⟨c, z, (sortR L).map (·.2) ++ [(.ref a, d)], rfl, .inl ?_, ⟨_, sA _ _ hz1⟩, ?_, fun q hq => ?_, fun i eb => ?_, fun _ => ⟨fun l2 => ?_, fun l2 x M G3 s5 hx pa e1 e2 => ?_⟩⟩)
    · rw [List.map_append, snd_rv]
      exact past_lst hc1
    · rw [List.length_append, List.length_map, pmS.length_eq]
      show L.length + 1 ≤ 61
      omega
    · rcases List.mem_append.mp hq with h | h
      · obtain ⟨r, hr2, rfl⟩ := List.mem_map.mp h
        exact (hrS r hr2).el.same sA
      · rw [List.mem_singleton.mp h]
        exact hd1.same sA
    · exfalso
      have gg := good_rows (ds := (sortR L).map rd ++ [d]) (seen := []) (i := 0) (fun e' he => by
        rcases List.mem_append.mp he with h | h
        · obtain ⟨r, hr2, rfl⟩ := List.mem_map.mp h
          exact (hrS r hr2).2.1
        · rw [List.mem_singleton.mp h]
          exact e) (by
        rw [List.nil_append, List.map_append, rows_mom hrS]
        refine List.nodup_append.mpr ⟨pm1.nodup_iff.mpr nd, by simp, fun x hx y hy exy => ?_⟩
        rw [List.map_singleton, List.mem_singleton] at hy
        rw [hy] at exy
        subst exy
        exact new (pm1.mem_iff.mp hx))
      rw [List.map_append, snd_rd] at eb
      have eb : firstBad [] 0 ((sortR L).map rd ++ [d]) = some i := eb
      rw [gg] at eb
      cases eb
    · rw [List.length_append, List.length_map, pmS.length_eq] at l2
      have l2 : 60 < L.length + 1 := l2
      exact (full (by omega)).same (s1.trans sA)
    · rw [List.length_append, List.length_map, pmS.length_eq] at l2
      have l2 : L.length + 1 ≤ 60 := l2
      rw [List.map_append, snd_rd] at e1 e2
      rw [List.map_append, rows_mom hrS] at e1
      rw [List.map_append, rows_ord hrS] at e2
      have sB := (s1.trans sA)
      refine few (by omega) x M G3 (sB.trans s5) ?_ pa e1 e2
      cases hb : H x with
      | none => rfl
      | some o =>
        rw [sB _ _ hb] at hx
        cases hx
theorem scWithout : FnScope ["self", "moment", "other"] ["self", "moment"] (defScope sWithout) := ⟨rfl, rfl, rfl, by decide +kernel, rfl, by decide +kernel, by decide +kernel⟩
theorem take_flt {α : Type} {l : List α} {i : Nat} {r : α} (f : α → Bool) (h : l[i]? = some r) : (l.take (i + 1)).filter f = (l.take i).filter f ++ if f r = true then [r] else [] := by
  rw [take_snoc h, List.filter_append]
  cases e : f r <;> simp [e]
theorem ok_pwithout {f : Addr} {fd : FuncData} (F : Fun K "without" "Past.without" sWithout f fd) (PC : PstC K C) (MP : MkP P w K mg base C CP CT) (MM : MakN P w K mg base "NoMoment" CM)
    (DC : MetC P w K mg base CX0 C "__contains__" 2 ["self", "x"] (spCont C)) : FnOk P w K mg base (L2.CX P w) 12 f fd ["self", "moment"] (spWo C CM) := by
  obtain ⟨fM, fdM, TM, GM, bM⟩ := MM.ex
  obtain ⟨fN, fdN, mkN, GN, hN, bN⟩ := MP.ex
  refine F.okX scWithout (fun vs H Q E h => ?_) (fun cdv A outer s H vs Q E hr h => ?_)
  · obtain ⟨p, z, z', m, k, v, d, L, rfl, _⟩ := h
    rfl
  · obtain ⟨p, z, z', m, k, v, d, L, rfl, hp, ⟨ys, hz⟩, hd, hw, bad, good⟩ := h
    have hu : (A.deeper (envOfC "Past.without" (defScope sWithout) s.heap.objs.size f cdv)).units + 1 < cLine := by
      have := hr.un
      omega
    refine ⟨_, pss_cons (ps_if (pt_cmpR (op_notInO (DC.dun (E := E0) pass0) (hr.mono (by decide))) (pv 1) (pv 0) (by rfl))
        (pss_one (ps_raise rfl (takes_of rfl rfl rfl rfl) (pmk_oex TM.ox TM.iC TM.tI GM (hr.mono (by decide)) bM .nil pass0 (by rfl) TM.gC (pa_cons (pv 1) pa_nil)))) pss_nil)
      (pss_one (ps_ret (pe_make (E := E) mkN GN hr (by rfl) hN bN .nil (passes_call (takes_of rfl rfl rfl rfl) fun _ _ _ _ h => h)
        (pa_cons (pe_lc (own := [("other", 2)]) (g := gName 2) (tt := _) rfl scWithout.nd (pi_list (pe_fld (pv 0) (by rfl))) (blkOk_by (own := [("other", 2)]) (N := ["self", "moment", "other"]) (sc := defScope sWithout) (by decide +kernel))
          (fun _ _ _ _ _ => pg_name (i := 2) scWithout.nd rfl (Or.inl rfl)) (fun _ _ _ _ _ => pts_one (pt_cmpR op_ne (pv 2) (pv 1) (nomark _))) (fun _ _ _ _ _ => pe_dget hu (show PE _ _ (tFld K (tVar 0) "_rows") from pe_fld (pv 0) (by rfl)) (pv 2) (fun _ _ => rfl))) pa_nil)))), ?_⟩
    obtain ⟨dx, pm, pd, h1, h2, h3, n1, n2, n3, hr', nd, l⟩ := id hp
    refine ⟨v, rfl, _, rfl, p, dx, _, rfl, h1, p, z, z', m, k, v, d, L, rfl, hp, hd, hw, fun G s1 => ⟨_, rfl, _, rfl, ?_⟩⟩
    cases e : inP L d with
    | false => exact iteT (raised_v TM.ox TM.no rfl ((bad e).same s1))
    | true =>
      refine iteF ?_
      obtain ⟨r, hr2, rfl⟩ := in_of e
      cases hd
      have pmS := sortR_perm L
      have hrS : ∀ r ∈ sortR L, RP z H r := fun r h => hr' r (pmS.mem_iff.mp h)
      refine ⟨_, rfl, p, C, dx, _, .ref pm, rfl, s1 _ _ h1, PC.cls, PC.n1, rfl, pm, rfl, ⟨_, SqL.of (s1 _ _ h2)⟩, fun D hD => ?_⟩
      have s0 := same_up (o := .lst []) hD
      refine lc_list (K := K) (a := pm) (xs := (momL L).map V.int) (fun i F => Same G F ∧ F D = some (.lst ((((sortR L).take i).filter fun q => decide (q.1 ≠ r.1)).map rv))) ⟨s0, by rw [List.take_zero]; exact upd_same⟩ (fun _ _ _ g => SqL.of (g.1 _ _ (s1 _ _ h2))) ?_ ?_
      · rintro i y F hy ⟨sF, hD'⟩
        rw [momL_sort, List.map_map] at hy
        obtain ⟨q, hq2, ey⟩ : ∃ q, (sortR L)[i]? = some q ∧ V.int q.1 = y := by
          rw [List.getElem?_map] at hy
          exact Option.map_eq_some_iff.mp hy
        subst ey
        have qL := pmS.mem_iff.mp (List.mem_of_getElem? hq2)
        refine ⟨rfl, .int q.1, rfl, .int r.1, rfl, rfl, _, rfl, ?_⟩
        rw [take_flt _ hq2]
        by_cases eq_ : q.1 = r.1
        · have e1 : decide (V.int q.1 = V.int r.1) = true := decide_eq_true (by rw [eq_])
          rw [e1]
          refine iteF ?_
          rw [if_neg (by simp [eq_]), List.append_nil]
          exact ⟨sF, hD'⟩
        · have e1 : decide (V.int q.1 = V.int r.1) = false := decide_eq_false fun h => eq_ (V.int.inj h)
          rw [e1]
          refine iteT ?_
          rw [if_pos (by simp [eq_])]
          have g := DGet.k (k := Sum.inl q.1) (sF _ _ (s1 _ _ h3))
          rw [valV_kvR, find_in nd qL] at g
          refine ⟨_, rfl, p, C, dx, _, .ref pd, rfl, sF _ _ (s1 _ _ h1), PC.cls, PC.n2, rfl, _, rfl, pd, rv q, rfl, g, _, hD', ?_, sup hD sF, ?_⟩
          · rw [List.length_map]
            have t1 := List.length_filter_le (fun q : RowD => decide (q.1 ≠ r.1)) ((sortR L).take i)
            rw [List.length_take] at t1
            have := pmS.length_eq
            exact small1000 (by omega)
          · rw [upd_same, List.map_append]
            rfl
      · rintro F ⟨sF, hD'⟩
        rw [List.length_map, momL_len, ← pmS.length_eq, List.take_length] at hD'
        have sA := s1.trans sF
        have mo : ∀ q ∈ outR L r.1, q ∈ L := fun q h => pmS.mem_iff.mp (List.mem_filter.mp h).1
        have hrO : ∀ q ∈ outR L r.1, RP z H q := fun q h => hr' q (mo q h)
        have len : (outR L r.1).length ≤ 60 := by
          have t1 := List.length_filter_le (fun q : RowD => decide (q.1 ≠ r.1)) (sortR L)
          have := pmS.length_eq
          show (List.filter _ _).length ≤ 60
          omega
        have ndO : ((outR L r.1).map (·.1)).Nodup := by
          have := (pmS.map (·.1)).nodup_iff.mpr nd
          exact this.sublist ((List.filter_sublist).map _)
        refine mk_past (.inr ⟨D, z, (outR L r.1).map (·.2), rfl, .inl ?_, ⟨_, sA _ _ hz⟩, ?_, fun q hq => ?_, fun i eb => ?_, fun _ => ⟨fun l2 => ?_, fun l2 x M G3 s5 hx pa e1 e2 => ?_⟩⟩)
        · rw [snd_rv]
          exact past_lst hD'
        · rw [List.length_map]
          omega
        · obtain ⟨q', hq2, rfl⟩ := List.mem_map.mp hq
          exact (hrO q' hq2).el.same sA
        · exfalso
          have gg := good_rows (ds := (outR L r.1).map rd) (seen := []) (i := 0) (fun e' he => by
            obtain ⟨r, hr2, rfl⟩ := List.mem_map.mp he
            exact (hrO r hr2).2.1) (by
            rw [List.nil_append, rows_mom hrO]
            exact ndO)
          rw [snd_rd] at eb
          rw [gg] at eb
          cases eb
        · rw [List.length_map] at l2
          omega
        · rw [snd_rd] at e1 e2
          rw [rows_mom hrO] at e1
          rw [rows_ord hrO] at e2
          refine good r hr2 rfl x M G3 (sA.trans s5) ?_ pa e1 e2
          cases hb : H x with
          | none => rfl
          | some o =>
            rw [sA _ _ hb] at hx
            cases hx
end
end Pl

namespace Pl
open L2 PySem PySem.Spec PyProof.Rows
/-! ### all but the drawn cell and the lambdas' tables stands -/
def BN (z : Addr) (H G : Hp) : Prop := ∀ b o, b ≠ z → (∀ ps, o ≠ .tbl ps) → H b = some o → G b = some o
theorem BN.refl (z : Addr) (H : Hp) : BN z H H := fun _ _ _ _ e => e
theorem BN.trans {z : Addr} {H G F : Hp} (a : BN z H G) (b : BN z G F) : BN z H F := fun c o n t e => b c o n t (a c o n t e)
theorem BN.but {z : Addr} {H G : Hp} (b : But z H G) : BN z H G := fun c o n _ e => b c o n trivial e
theorem BN.of {z : Addr} {H G : Hp} (s : Same H G) : BN z H G := fun c o _ _ e => s c o e
theorem BN.ext {z : Addr} {H G : Hp} (x : LamX.ExtN H G) : BN z H G := fun c o _ t e => x c o e t
section
variable {m : Bool} {z : Addr} {H G : Hp}
theorem TupAt.bn {k : Bool} {a : Addr} {xs : List V} (e : BN z H G) (ne : a ≠ z) (h : TupAt H k a xs) : TupAt G k a xs := by
  cases h with
  | frz h d => exact .frz (e _ _ ne (fun _ q => nomatch q) h) d
  | big h l => exact .big (e _ _ ne (fun _ q => nomatch q) h) l
  | any h => exact .any (e _ _ ne (fun _ q => nomatch q) h)
mutual
theorem Dv.bn (e : BN z H G) : ∀ (k : Bool) (d : PyData) (v : V), Dv m z H k v d → Dv m z G k v d
  | _, .none, _, h => by cases h; exact .non
  | _, .bool _, _, h => by cases h; exact .bl _
  | _, .int _, _, h => by cases h; exact .int _
  | _, .str _, _, h => by cases h; exact .str _
  | _, .list ds, _, h => by
    cases h with
    | lst hm ne h t => exact .lst hm ne (e _ _ ne (fun _ q => nomatch q) h) (DvL.bn e _ ds _ t)
  | _, .tuple ds, _, h => by
    cases h with
    | tup ne h t => exact .tup ne (h.bn e ne) (DvL.bn e _ ds _ t)
  | _, .dict _, _, h => by
    cases h with
    | dct hm ne h => exact .dct hm ne (e _ _ ne (fun _ q => nomatch q) h)
theorem DvL.bn (e : BN z H G) : ∀ (k : Bool) (ds : List PyData) (vs : List V), DvL m z H k vs ds → DvL m z G k vs ds
  | _, [], _, h => by cases h; exact .nil
  | _, d :: ds, _, h => by
    cases h with
    | cons a t => exact .cons (Dv.bn e _ d _ a) (DvL.bn e _ ds _ t)
end
theorem RP.bn {r : RowD} (h : RP z H r) (b : BN z H G) : RP z G r := ⟨fun m => Dv.bn b _ _ _ (h.1 m), h.2⟩
theorem PastAt.bn {C p : Addr} {L : List RowD} (h : PastAt C z H p L) (b : BN z H G) : PastAt C z G p L := by
  obtain ⟨dx, pm, pd, h1, h2, h3, n1, n2, n3, hr, nd, l⟩ := h
  exact ⟨dx, pm, pd, b _ _ n1 (fun _ q => nomatch q) h1, b _ _ n2 (fun _ q => nomatch q) h2, b _ _ n3 (fun _ q => nomatch q) h3, n1, n2, n3, fun r m => (hr r m).bn b, nd, l⟩
end
/-! ### deeds in the order of their moments -/
def srtD (ds : List PyData) : List PyData := ds.mergeSort fun a b => decide (momD a ≤ momD b)
theorem sort_rd {z : Addr} {H : Hp} {L : List RowD} (h : ∀ r ∈ L, RP z H r) : (sortR L).map rd = srtD (L.map rd) :=
  List.map_mergeSort (f := rd) (r := leR) (s := fun a b => decide (momD a ≤ momD b)) fun a ha b hb => by
    unfold leR
    rw [(h a ha).2.2.1, (h b hb).2.2.1]
theorem srtD_perm (ds : List PyData) : (srtD ds).Perm ds := List.mergeSort_perm _ _
theorem leD_total (a b : PyData) : (decide (momD a ≤ momD b) || decide (momD b ≤ momD a)) = true := by
  rw [Bool.or_eq_true, decide_eq_true_eq, decide_eq_true_eq]; skip
  omega
theorem leD_trans (a b c : PyData) (h1 : decide (momD a ≤ momD b) = true) (h2 : decide (momD b ≤ momD c) = true) : decide (momD a ≤ momD c) = true := by
  have h1 := of_decide_eq_true h1
  have h2 := of_decide_eq_true h2
  exact decide_eq_true (by omega); skip
def UpD (ds : List PyData) : Prop := ds.Pairwise fun a b => momD a < momD b
theorem srtD_up {ds : List PyData} (nd : (ds.map momD).Nodup) : UpD (srtD ds) := by
  have p := List.pairwise_mergeSort (le := fun a b : PyData => decide (momD a ≤ momD b)) leD_trans leD_total ds
  have n : ((srtD ds).map momD).Nodup := ((srtD_perm ds).map momD).nodup_iff.mpr nd
  have n : (srtD ds).Pairwise fun a b => momD a ≠ momD b := List.pairwise_map.mp n
  refine (List.Pairwise.and p n).imp fun h => ?_
  have h1 := of_decide_eq_true h.1
  have h2 := h.2
  omega
theorem srtD_of {ds : List PyData} (h : UpD ds) : srtD ds = ds := List.mergeSort_of_pairwise (h.imp fun h => decide_eq_true (by omega))
theorem up_uniq {as bs : List PyData} (ha : UpD as) (hb : UpD bs) (p : as.Perm bs) : as = bs :=
  List.Perm.eq_of_pairwise (le := fun a b => momD a < momD b) (fun a b _ _ h1 h2 => by omega) ha hb p
theorem up_nodup {ds : List PyData} (h : UpD ds) : (ds.map momD).Nodup := List.pairwise_map.mpr (h.imp fun h => by omega)
/-- a list of the deeds ds, as they are kept -/
structure DueAt (z : Addr) (H : Hp) (u : Addr) (ds : List PyData) : Prop where
  ex : ∃ D : List RowD, D.map rd = ds ∧ H u = some (.lst (D.map rv)) ∧ ∀ r ∈ D, RP z H r
  nz : u ≠ z
  up : UpD ds
  len : ds.length ≤ 60
theorem DueAt.bn {z u : Addr} {H G : Hp} {ds : List PyData} (h : DueAt z H u ds) (b : BN z H G) : DueAt z G u ds := by
  obtain ⟨⟨D, e, hu, hr⟩, n, p, l⟩ := h
  exact ⟨⟨D, e, b _ _ n (fun _ q => nomatch q) hu, fun r m => (hr r m).bn b⟩, n, p, l⟩
theorem DueAt.same {z u : Addr} {H G : Hp} {ds : List PyData} (h : DueAt z H u ds) (s : Same H G) : DueAt z G u ds := h.bn (BN.of s)
/-- a past that keeps ds -/
structure PV (C z : Addr) (H : Hp) (p : Addr) (ds : List PyData) : Prop where
  ex : ∃ L, PastAt C z H p L ∧ (sortR L).map rd = ds
theorem PV.bn {C z p : Addr} {H G : Hp} {ds : List PyData} (h : PV C z H p ds) (b : BN z H G) : PV C z G p ds := by
  obtain ⟨L, a, e⟩ := h
  exact ⟨L, a.bn b, e⟩
theorem PV.same {C z p : Addr} {H G : Hp} {ds : List PyData} (h : PV C z H p ds) (s : Same H G) : PV C z G p ds := h.bn (BN.of s)
theorem rows_momS {z : Addr} {H : Hp} {L : List RowD} (h : ∀ r ∈ L, RP z H r) : ((sortR L).map rd).map momD = (sortR L).map (·.1) := rows_mom fun r hr => h r ((sortR_perm L).mem_iff.mp hr)
theorem PastAt.up {C z p : Addr} {H : Hp} {L : List RowD} (h : PastAt C z H p L) : UpD ((sortR L).map rd) := by
  obtain ⟨dx, pm, pd, h1, h2, h3, n1, n2, n3, hr, nd, l⟩ := h
  rw [sort_rd hr]
  refine srtD_up ?_
  rw [rows_mom hr]
  exact nd
theorem hit_self {z z' : Addr} {H H' : Hp} {L M : List RowD} (hL : ∀ r ∈ L, RP z H r) (hM : ∀ r ∈ M, RP z' H' r) (nd : (M.map (·.1)).Nodup) (p : (L.map rd).Perm (M.map rd)) : eqRows L M = true := by
  unfold eqRows
  have l : L.length = M.length := by
    have := p.length_eq
    rwa [List.length_map, List.length_map] at this
  rw [l, beq_self_eq_true, Bool.true_and, List.all_eq_true]
  intro r hr
  obtain ⟨q, hq, e⟩ := List.mem_map.mp (p.mem_iff.mp (List.mem_map.mpr ⟨r, hr, rfl⟩))
  have e1 : q.1 = r.1 := by
    rw [(hM q hq).2.2.1, (hL r hr).2.2.1]
    exact congrArg momD e
  unfold hitR
  rw [← e1, find_in nd hq]
  show PyData.eqv (rd r) (rd q) = true
  have e : rd q = rd r := e
  rw [e]
  exact SeqAt.eqv_refl _ (bd_okL (hL r hr).2.1 (hL r hr).2.2.2.2 (by decide)).1
theorem rows_ne {L M : List RowD} (h : L.length ≠ M.length) : eqRows L M = false := by
  unfold eqRows
  rw [beq_eq_false_iff_ne.mpr h, Bool.false_and]
theorem rows_dvl {z : Addr} {H : Hp} : ∀ {D : List RowD}, (∀ r ∈ D, RP z H r) → DvL false z H false (D.map rv) (D.map rd)
  | [], _ => .nil
  | r :: D, hr => .cons ((hr r List.mem_cons_self).1 false) (rows_dvl fun r m => hr r (List.mem_cons_of_mem _ m))
/-- ds as a list that repr and == read -/
theorem DueAt.dv {z u : Addr} {H : Hp} {ds : List PyData} (h : DueAt z H u ds) : Dv false z H false (.ref u) (.list ds) := by
  obtain ⟨⟨D, rfl, hu, hr⟩, n, _, _⟩ := h
  exact .lst rfl n hu (rows_dvl hr)
theorem DueAt.bdA {z u : Addr} {H : Hp} {ds : List PyData} (h : DueAt z H u ds) : BdA 12660 3 ds := by
  obtain ⟨⟨D, rfl, hu, hr⟩, n, _, l⟩ := h
  refine (BdA.rep (W := 210) fun d hd => ?_).mono (by omega) (Nat.le_refl _)
  obtain ⟨r, hr2, rfl⟩ := List.mem_map.mp hd
  exact (hr r hr2).2.2.2.2
theorem shwW {d : PyData} (l : lf d = true) (p : d.depth ≤ 10) (w : d.weight ≤ 20000) : Shw d := ⟨(lf_props d l).1, p, PyData.shown_fits (by decide) (by decide) (lf_props d l).2 (Nat.le_trans w (by decide))⟩
theorem DueAt.shw {z u : Addr} {H : Hp} {ds : List PyData} (h : DueAt z H u ds) : Shw (.list ds) := by
  have b := h.bdA
  refine shwW ?_ ?_ ?_
  · simp only [lf, b.l]
  · simp only [PyData.depth]
    have := b.p
    omega
  · simp only [PyData.weight]
    have := b.w
    omega
theorem DueAt.shaped {z u : Addr} {H : Hp} {ds : List PyData} (h : DueAt z H u ds) : SeqAt.shaped (.list ds) = true := by
  obtain ⟨⟨D, rfl, hu, hr⟩, n, _, l⟩ := h
  refine shaped_all fun d hd => ?_
  obtain ⟨r, hr2, rfl⟩ := List.mem_map.mp hd
  exact bd_okL (hr r hr2).2.1 (hr r hr2).2.2.2.2 (by decide)
/-! ### what is caught -/
abbrev sCaught : Stmt := top 46
abbrev outL (w : Str) (d : PyData) : HO := .lst [.str w, .str d.shown]
structure Fo where
  p : Addr
  d : Addr
  m : Addr
  t : Addr
def Fo.is_ (c : Fo) (w : Str) (f : Str) (cls : Value) : Prop := (w = "past" ∧ f = "told" ∧ cls = .ref c.p) ∨ (w = "deed" ∧ f = "told" ∧ cls = .ref c.d) ∨ (w = "moment" ∧ f = "told" ∧ cls = .ref c.m) ∨ (w = "many" ∧ f = "most" ∧ cls = .ref c.t)
def OdV (H : Hp) (v : V) (e : PyData) : Prop := (∃ m z, Dv m z H false v e) ∧ Shw e
theorem OdV.same {H G : Hp} {v : V} {e : PyData} (h : OdV H v e) (s : Same H G) : OdV G v e := by
  obtain ⟨⟨m, z, d⟩, w⟩ := h
  exact ⟨⟨m, z, Dv.to (But.of s) _ _ _ d⟩, w⟩
def TTr (c : Fo) : (XK → Hp → VK → Prop) → Hp → VK → Prop := fun tl H Q =>
  tl (fun cls d H' => ∃ (dd : Addr) (v : V) (e : PyData) (w f : Str), c.is_ w f cls ∧ d = some dd ∧ H' dd = some (.xd [(f, v)]) ∧ OdV H' v e ∧ ∀ p, H' p = none → Q (.ref p) (upd H' p (outL w e))) H fun _ H1 => Q .non H1
structure ErrS (K : PySem.W.Frag) (mg : Str → Option Value) (x f : Str) (C : Addr) : Prop where
  gC : mg x = some (.ref C)
  xf : XfC K C
  no : PySem.W.findIn K (.ref C) f = some none
/-- what the clauses ask of the classes -/
structure Tri (K : PySem.W.Frag) (mg : Str → Option Value) (c : Fo) : Prop where
  p : ErrS K mg "NoPast" "told" c.p
  d : ErrS K mg "NoDeed" "told" c.d
  m : ErrS K mg "NoMoment" "told" c.m
  t : ErrS K mg "TooMany" "most" c.t
  pp : PySem.W.exmOne K (.ref c.p) (.ref c.p) = some true
  dp : PySem.W.exmOne K (.ref c.d) (.ref c.p) = some false
  dd : PySem.W.exmOne K (.ref c.d) (.ref c.d) = some true
  mp : PySem.W.exmOne K (.ref c.m) (.ref c.p) = some false
  md : PySem.W.exmOne K (.ref c.m) (.ref c.d) = some false
  mm : PySem.W.exmOne K (.ref c.m) (.ref c.m) = some true
  tp : PySem.W.exmOne K (.ref c.t) (.ref c.p) = some false
  td : PySem.W.exmOne K (.ref c.t) (.ref c.d) = some false
  tm : PySem.W.exmOne K (.ref c.t) (.ref c.m) = some false
  tt : PySem.W.exmOne K (.ref c.t) (.ref c.t) = some true
abbrev psT : List Str := ["_law_call", "e"]
theorem scTried : FnScope psT ["_law_call"] (defScope sCaught) := ⟨rfl, rfl, rfl, by decide +kernel, rfl, by decide +kernel, by decide +kernel⟩
theorem takes_len {X : Cx} {W : WX} (tk : Takes X W) : Takes X (fun cls d σ H => σ.length = X.N.length → W cls d σ H) := fun u s' ⟨a, B, sI, pins, σ, H, cls, d, e, I, nb, up, sky, na, os, ag, w⟩ => tk u s' ⟨a, B, sI, pins, σ, H, cls, d, e, I, nb, up, sky, na, os, ag, w I.len⟩
theorem pss_ex {X : Cx} {b : List Stmt} {ι : Type} {Pre : ι → Prop} {t : ι → Ends → L2.St → Hp → Prop} (h : ∀ i, Pre i → PSs X b (t i)) : PSs X b (fun D σ H => ∃ i, Pre i ∧ t i D σ H) := ⟨fun pins s σ H D I ⟨i, p, h'⟩ => (h i p).run pins s σ H D I h'⟩
theorem tried_gives {X : Cx} {c : Fo} {g : Addr} {cdg : Value} {q : Str} (hgd : X.A.guards = some []) (hun : X.A.units + 128 < cLine) (T2 : Cs2 X.mg) (S : Tri X.K X.mg c) : LamX.GivesTo X psT "_law_caught" (defScope sCaught) g cdg (defBody sCaught) "_law_call" q (TTr c) := by
  intro f c' s H Q tl act hc h
  have hu : (X.A.deeper (envOfC "_law_caught" (defScope sCaught) s.heap.objs.size g cdg)).units + 64 < cLine := by
    show X.A.units + 3 + 64 < cLine
    omega
  refine ⟨_, pss_cons (ps_try_all (X := (cxOf C8.CX0 X.prog X.w X.K X.mg X.base psT "_law_caught" (defScope sCaught) g cdg X.A X.stack s H C8.E0).nox) (i := 1) (n := "e")
      rfl rfl scTried.nd rfl rfl takes0 (fun W pn xe tk _ => pss_ex (Pre := fun Ech : XK => ∀ cls d σ' H', Ech cls d H' → (List.length σ' = 2) → W cls d σ' H') fun Ech hW => pss_one (ps_expr (act _ pn xe Ech _ _ (takes_len tk) hW)))
      (.cons (x := "NoPast") ⟨rfl, by decide, .inl S.p.gC⟩ (fun a oe cls d pn hz hf => pss_one (ps_ret (pe_lst (pa_cons pe_str (pa_cons (pe_callB (call_repr hgd hu) (by rfl) T2.rpr (by decide +kernel) (pa_cons (pe_xf S.p.xf S.p.no hz hf (pv 1)) pa_nil)) pa_nil)))))
      (.cons (x := "NoDeed") ⟨rfl, by decide, .inl S.d.gC⟩ (fun a oe cls d pn hz hf => pss_one (ps_ret (pe_lst (pa_cons pe_str (pa_cons (pe_callB (call_repr hgd hu) (by rfl) T2.rpr (by decide +kernel) (pa_cons (pe_xf S.d.xf S.d.no hz hf (pv 1)) pa_nil)) pa_nil)))))
      (.cons (x := "NoMoment") ⟨rfl, by decide, .inl S.m.gC⟩ (fun a oe cls d pn hz hf => pss_one (ps_ret (pe_lst (pa_cons pe_str (pa_cons (pe_callB (call_repr hgd hu) (by rfl) T2.rpr (by decide +kernel) (pa_cons (pe_xf S.m.xf S.m.no hz hf (pv 1)) pa_nil)) pa_nil)))))
      (.cons (x := "TooMany") ⟨rfl, by decide, .inl S.t.gC⟩ (fun a oe cls d pn hz hf => pss_one (ps_ret (pe_lst (pa_cons pe_str (pa_cons (pe_callB (call_repr hgd hu) (by rfl) T2.rpr (by decide +kernel) (pa_cons (pe_xf S.t.xf S.t.no hz hf (pv 1)) pa_nil)) pa_nil)))))
      .nil)))))
    (pss_one (ps_ret pe_non)), ?_⟩
  refine ⟨_, ?_, rfl, hc, h⟩
  rintro cls d σ' H' ⟨dd, v, e, w, f, hw, rfl, hd, ⟨⟨m, z, dv⟩, sw⟩, q'⟩ hl
  match σ', hl with
  | [y1, y2], _ =>
  rcases hw with ⟨rfl, rfl, rfl⟩ | ⟨rfl, rfl, rfl⟩ | ⟨rfl, rfl, rfl⟩ | ⟨rfl, rfl, rfl⟩
  · exact ⟨true, S.pp, fun _ a ha => ⟨_, rfl, rfl, rfl, dd, _, v, rfl, hd, rfl, m, z, v, e, rfl, dv, sw, by show 2 ≤ sizeLine; decide, fun l hl => q' l hl⟩, fun q => nomatch q⟩
  · exact ⟨false, S.dp, (fun q => nomatch q), fun _ => ⟨true, S.dd, fun _ a ha => ⟨_, rfl, rfl, rfl, dd, _, v, rfl, hd, rfl, m, z, v, e, rfl, dv, sw, by show 2 ≤ sizeLine; decide, fun l hl => q' l hl⟩, fun q => nomatch q⟩⟩
  · exact ⟨false, S.mp, (fun q => nomatch q), fun _ => ⟨false, S.md, (fun q => nomatch q), fun _ => ⟨true, S.mm, fun _ a ha => ⟨_, rfl, rfl, rfl, dd, _, v, rfl, hd, rfl, m, z, v, e, rfl, dv, sw, by show 2 ≤ sizeLine; decide, fun l hl => q' l hl⟩, fun q => nomatch q⟩⟩⟩
  · exact ⟨false, S.tp, (fun q => nomatch q), fun _ => ⟨false, S.td, (fun q => nomatch q), fun _ => ⟨false, S.tm, (fun q => nomatch q), fun _ => ⟨true, S.tt, fun _ a ha => ⟨_, rfl, rfl, rfl, dd, _, v, rfl, hd, rfl, m, z, v, e, rfl, dv, sw, by show 2 ≤ sizeLine; decide, fun l hl => q' l hl⟩, fun q => nomatch q⟩⟩⟩⟩
end Pl

namespace Pl
open L2 PySem PySem.Spec PyProof.Rows
abbrev sIsPast : Stmt := top 48
theorem mom_in {d : PyData} (h : isDeed d = true) : 1 ≤ momD d ∧ momD d ≤ 999 := by
  rcases deed_cases h with ⟨mo, k, ps, rfl, a, b, _⟩ | ⟨mo, x, p, r, rfl, a, b, _⟩ <;> exact ⟨a, b⟩
theorem mom_lf {i : Int} (a : -1 ≤ i) (b : i ≤ 2000) : lf (.int i) = true := by
  simp only [lf, decide_eq_true a, decide_eq_true b, Bool.and_self]
theorem int_w {i : Int} (a : -1 ≤ i) (b : i ≤ 2000) : (PyData.int i).weight ≤ 12 := by
  simp only [PyData.weight]
  split
  · omega
  · have : i.natAbs < 2 ^ 11 := by omega
    have h := (Nat.log2_lt (by
      intro z
      have : i = 0 := by omega
      simp_all)).mpr this
    omega
theorem mom_w {d : PyData} (h : isDeed d = true) : (PyData.int (momD d)).weight ≤ 1000 := Nat.le_trans (int_w (by have := mom_in h; omega) (by have := mom_in h; omega)) (by decide)
/-! ### what a past tells, by its deeds -/
section
variable {K : PySem.W.Frag} {C CM z p : Addr} {H : Hp} {Q : VK} {E : XK} {ds : List PyData}
theorem PV.ins (h : PV C z H p ds) : ∃ dx fs, H p = some (.ins C dx fs) ∧ fs.lookup ("deeds" : Str) = none ∧ fs.lookup ("listed" : Str) = none ∧ fs.lookup ("with_deed" : Str) = none ∧ fs.lookup ("without" : Str) = none := by
  obtain ⟨L, ⟨dx, pm, pd, h1, _⟩, e⟩ := h
  exact ⟨dx, _, h1, rfl, rfl, rfl, rfl⟩
theorem PV.len (h : PV C z H p ds) : ds.length ≤ 60 := by
  obtain ⟨L, ⟨dx, pm, pd, h1, h2, h3, n1, n2, n3, hr, nd, l⟩, e⟩ := h
  rw [← e, List.length_map, (sortR_perm L).length_eq]
  exact l
theorem pv_deeds (h : PV C z H p ds) (hz : ∃ o, H z = some o) (q : ∀ u G, Same H G → H u = none → DueAt z G u ds → Q (.ref u) G) : spDs C [.ref p] H Q E := by
  have hl := h.len
  obtain ⟨L, a, e⟩ := h
  have up := a.up
  obtain ⟨o, hz⟩ := hz
  refine ⟨p, z, L, rfl, a, fun u G hu s hg => q u G s hu ?_⟩
  obtain ⟨dx, pm, pd, h1, h2, h3, n1, n2, n3, hr, nd, l⟩ := a
  exact ⟨⟨sortR L, e, hg, fun r m => (hr r ((sortR_perm L).mem_iff.mp m)).same s⟩, (ne_of_none hz hu).symm, e ▸ up, hl⟩
theorem PV.moms {L : List RowD} (a : PastAt C z H p L) : momL L = ((sortR L).map rd).map momD := by
  obtain ⟨dx, pm, pd, h1, h2, h3, n1, n2, n3, hr, nd, l⟩ := a
  rw [momL_sort, rows_momS hr]
theorem pv_listed (h : PV C z H p ds) (q : ∀ u G, Same H G → H u = none → G u = some (.lst ((ds.map momD).map V.int)) → Q (.ref u) G) : spLst C [.ref p] H Q E := by
  obtain ⟨L, a, e⟩ := h
  refine ⟨p, z, L, rfl, a, fun u G hu s hg => q u G s hu ?_⟩
  rw [PV.moms a, e] at hg
  exact hg
theorem pv_len (h : PV C z H p ds) (q : Q (.int (ds.length : Nat)) H) : spLn C [.ref p] H Q E := by
  obtain ⟨L, a, e⟩ := h
  refine ⟨p, z, L, rfl, a, ?_⟩
  rw [← e, List.length_map, (sortR_perm L).length_eq] at q
  exact q
theorem PV.row (h : PV C z H p ds) {d : PyData} (hd : d ∈ ds) : ∃ L, PastAt C z H p L ∧ (sortR L).map rd = ds ∧ ∃ r ∈ L, rd r = d ∧ r.1 = momD d ∧ RP z H r := by
  obtain ⟨L, a, e⟩ := h
  obtain ⟨dx, pm, pd, h1, h2, h3, n1, n2, n3, hr, nd, l⟩ := id a
  rw [← e] at hd
  obtain ⟨r, hr2, rfl⟩ := List.mem_map.mp hd
  have m := (sortR_perm L).mem_iff.mp hr2
  exact ⟨L, a, e, r, m, rfl, (hr r m).2.2.1, hr r m⟩
theorem PV.mem {L : List RowD} (a : PastAt C z H p L) (e : (sortR L).map rd = ds) (m : Int) : m ∈ L.map (·.1) ↔ m ∈ ds.map momD := by
  obtain ⟨dx, pm, pd, h1, h2, h3, n1, n2, n3, hr, nd, l⟩ := a
  rw [← e, rows_momS hr]
  exact ((sortR_perm L).map _).mem_iff.symm
/-- is it one of the moments -/
def inM (ds : List PyData) : PyData → Bool
  | .int i => decide (i ∈ ds.map momD)
  | _ => false
theorem PV.inP {L : List RowD} (a : PastAt C z H p L) (e : (sortR L).map rd = ds) (x : PyData) : Pl.inP L x = inM ds x := by
  cases x with
  | int i =>
    show decide _ = decide _
    by_cases h : i ∈ L.map (·.1)
    · rw [decide_eq_true h, decide_eq_true ((PV.mem a e i).mp h)]
    · rw [decide_eq_false h, decide_eq_false fun g => h ((PV.mem a e i).mpr g)]
  | _ => rfl
theorem pv_get (h : PV C z H p ds) {d : PyData} (hd : d ∈ ds) (q : ∀ v G, Same H G → RP z G (momD d, v, d) → Q v G) : spGet C CM [.ref p, .int (momD d)] H Q E := by
  obtain ⟨L, a, e, r, m, e1, e2, rp⟩ := h.row hd
  refine ⟨p, z, z, true, false, .int (momD d), .int (momD d), L, rfl, a, .int _, mom_w (d := d) (by rw [← e1]; exact rp.2.1), fun no => ?_, fun r' hr' e' G s => ?_⟩
  · rw [PV.inP a e] at no
    exact absurd (decide_eq_true (List.mem_map.mpr ⟨d, hd, rfl⟩)) (by rw [show decide (momD d ∈ ds.map momD) = false from no]; decide)
  · obtain ⟨dx, pm, pd, h1, h2, h3, n1, n2, n3, hr, nd, l⟩ := id a
    have e' : momD d = r'.1 := PyData.int.inj e'
    have : r' = r := by
      have f1 := find_in nd hr'
      have f2 := find_in nd m
      rw [← e', ← e2] at f1
      rw [f2] at f1
      exact (Option.some.inj f1).symm
    subst this
    refine q _ G s ?_
    obtain ⟨a1, b1, v1⟩ := r'
    have e1 : v1 = d := e1
    subst e1
    have e2 : a1 = momD v1 := e2
    subst e2
    exact rp.same s
theorem pv_cont (h : PV C z H p ds) {v : V} {d : PyData} {m k : Bool} {z' : Addr} (hd : Dv m z' H k v d) (hw : d.weight ≤ 1000) (q : ∀ G, Same H G → Q (.bl (inM ds d)) G) : spCont C [.ref p, v] H Q E := by
  obtain ⟨L, a, e⟩ := h
  refine ⟨p, z, z', m, k, v, d, L, rfl, a, hd, hw, fun G s => ?_⟩
  rw [PV.inP a e]
  exact q G s
end
theorem PV.deed {C z p : Addr} {H : Hp} {ds : List PyData} (h : PV C z H p ds) {d : PyData} (hd : d ∈ ds) : isDeed d = true := by
  obtain ⟨L, a, e, r, m, e1, e2, rp⟩ := h.row hd
  rw [← e1]
  exact rp.2.1
theorem ints_dp {K : PySem.W.Frag} {H : Hp} : ∀ is : List Int, DpAll K H (is.map V.int) (is.map PyData.int)
  | [] => .nil
  | i :: is => .cons (.int i) (ints_dp is)
theorem ints_shaped {is : List Int} (h : ∀ i ∈ is, -1 ≤ i ∧ i ≤ 2000) : SeqAt.shaped (.list (is.map PyData.int)) = true := shaped_all fun d hd => by
  obtain ⟨i, hi, rfl⟩ := List.mem_map.mp hd
  refine ⟨lay_of _ (mom_lf (h i hi).1 (h i hi).2) (by simp only [noLD]), ?_⟩
  simp only [PyData.depth]
  exact Nat.zero_le _
theorem eqv_list {ds : List PyData} (h : SeqAt.shaped (.list ds) = true) : PyData.eqv (.list ds) (.list ds) = true := by
  have h' : ((PyData.list ds).canLay0 && decide ((PyData.list ds).depth ≤ 64)) = true := h
  rw [Bool.and_eq_true] at h'
  exact SeqAt.eqv_refl _ h'.1
theorem DueAt.ints' {z u : Addr} {H : Hp} {ds : List PyData} (h : DueAt z H u ds) : SeqAt.shaped (.list ((ds.map momD).map PyData.int)) = true := ints_shaped fun i hi => by
  obtain ⟨D, rfl, hu, hr⟩ := h.ex
  obtain ⟨d, hd, rfl⟩ := List.mem_map.mp hi
  obtain ⟨r, hr2, rfl⟩ := List.mem_map.mp hd
  have := mom_in (hr r hr2).2.1
  omega
theorem RP.off {z D : Addr} {H : Hp} {r : RowD} {ys : List V} {o : HO} (h : RP z H r) (hD : H D = some (.lst ys)) : RP z (upd H D o) r := by
  obtain ⟨a, b⟩ := Dv.off (o := o) hD false _ _ (h.1 true) (h.1 false)
  refine ⟨fun m => ?_, h.2⟩
  cases m
  · exact b
  · exact a
theorem ne_dues {K : PySem.W.Frag} {z u v : Addr} {H : Hp} {ds : List PyData} {Q : VK} (a : DueAt z H u ds) (b : DueAt z H v ds) (q : Q (.bl false) H) : rNeD K (.ref u) (.ref v) H Q := by
  refine ⟨_, _, Dv.dp _ _ _ a.dv, Dv.dp _ _ _ b.dv, a.shaped, a.shaped, ?_⟩
  rw [eqv_list a.shaped]
  exact q
theorem ne_ints {K : PySem.W.Frag} {z w u v : Addr} {H : Hp} {ds : List PyData} {Q : VK} (d : DueAt z H w ds) (a : H u = some (.lst ((ds.map momD).map V.int))) (b : H v = some (.lst ((ds.map momD).map V.int))) (q : Q (.bl false) H) : rNeD K (.ref u) (.ref v) H Q := by
  refine ⟨_, _, .lst (SqL.of a) (ints_dp _), .lst (SqL.of b) (ints_dp _), d.ints', d.ints', ?_⟩
  rw [eqv_list d.ints']
  exact q
theorem eq_ints {K : PySem.W.Frag} {z w u v : Addr} {H : Hp} {ds : List PyData} {Q : VK} (d : DueAt z H w ds) (a : H u = some (.lst ((ds.map momD).map V.int))) (b : H v = some (.lst ((ds.map momD).map V.int))) (q : Q (.bl true) H) : rEqD K (.ref u) (.ref v) H Q := by
  refine ⟨_, _, .lst (SqL.of a) (ints_dp _), .lst (SqL.of b) (ints_dp _), d.ints', d.ints', ?_⟩
  rw [eqv_list d.ints']
  exact q
theorem ne_nil {K : PySem.W.Frag} {u v : Addr} {H : Hp} {Q : VK} (a : H u = some (.lst [])) (b : H v = some (.lst [])) (q : Q (.bl false) H) : rNeD K (.ref u) (.ref v) H Q := ⟨_, _, .lst (SqL.of a) .nil, .lst (SqL.of b) .nil, by rfl, by rfl, by rw [show PyData.eqv (.list []) (.list []) = true from rfl]; exact q⟩
theorem reprs_ne {z v : Addr} {H : Hp} {ds : List PyData} {σ : L2.St} {i : Nat} {Q : VK} {ta : TE} (hi : σ[i]? = some (some (.ref v))) (a : ∀ k : VK, (∀ u G, Same H G → DueAt z G u ds → k (.ref u) G) → ta σ H k) (b : DueAt z H v ds) (q : ∀ G, Same H G → Q (.bl false) G) : tOp rNe (tCB rRepr (tCons ta tNil)) (tCB rRepr (tCons (tVar i) tNil)) σ H Q :=
  a _ fun u G s du => ⟨false, z, .ref u, .list ds, rfl, du.dv, du.shw, _, hi, false, z, .ref v, .list ds, rfl, (b.same s).dv, (b.same s).shw, rfl, by
    rw [show (!decide (V.str (PyData.shown (.list ds)) = V.str (PyData.shown (.list ds)))) = false from by simp]
    exact q G s⟩
theorem reprs_eq {z v : Addr} {H : Hp} {ds : List PyData} {σ : L2.St} {i : Nat} {Q : VK} {ta : TE} (hi : σ[i]? = some (some (.ref v))) (a : ∀ k : VK, (∀ u G, Same H G → DueAt z G u ds → k (.ref u) G) → ta σ H k) (b : DueAt z H v ds) (q : ∀ G, Same H G → Q (.bl true) G) : tOp rEq (tCB rRepr (tCons ta tNil)) (tCB rRepr (tCons (tVar i) tNil)) σ H Q :=
  a _ fun u G s du => ⟨false, z, .ref u, .list ds, rfl, du.dv, du.shw, _, hi, false, z, .ref v, .list ds, rfl, (b.same s).dv, (b.same s).shw, rfl, by
    rw [show decide (V.str (PyData.shown (.list ds)) = V.str (PyData.shown (.list ds))) = true from by simp]
    exact q G s⟩
end Pl

namespace Pl
open L2 PySem PySem.Spec PyProof.Rows
/-- the class Past, as the law calls it -/
structure PsD (P : Program) (w : World) (K : PySem.W.Frag) (mg : Str → Option Value) (base : Heap) (C CM : Addr) : Prop where
  pc : PstC K C
  ds : MetC P w K mg base CX0 C "deeds" 1 ["self"] (spDs C)
  li : MetC P w K mg base CX0 C "listed" 1 ["self"] (spLst C)
  le : MetC P w K mg base CX0 C "__len__" 1 ["self"] (spLn C)
  ct : MetC P w K mg base CX0 C "__contains__" 2 ["self", "x"] (spCont C)
  gi : MetC P w K mg base (L2.CX P w) C "__getitem__" 3 ["self", "at"] (spGet C CM)
theorem MetC.fnI {P : Program} {w : World} {K : PySem.W.Frag} {mg : Str → Option Value} {base : Heap} {CX : CXT} {C : Addr} {m : Str} {k : Nat} {ps : List Str} {sp : Sp} (M : MetC P w K mg base CX C m k ps sp) : ∀ f, PySem.W.findIn K (.ref C) m = some (some (.ref f)) → PySem.W.fnIn K f = true := fun f h => by
  obtain ⟨g, fd, F, me, b, hf⟩ := M.ex
  rw [me.at_] at h
  cases h
  exact hf
/-- a list of the moments, read from the deeds -/
theorem lc_moms {K : PySem.W.Frag} {z u : Addr} {H : Hp} {ds : List PyData} {σ : L2.St} {j i : Nat} {Q : VK} (a : DueAt z H u ds) (hi : σ[i]? = some (some (.ref u))) (hw : ∀ v, wipe ((wipe σ [j]).set j (some v)) [j] = wipe σ [j]) (hj : ∀ v : V, ((wipe σ [j]).set j (some v))[j]? = some (some v))
    (q : ∀ q G, Same H G → H q = none → G q = some (.lst ((ds.map momD).map V.int)) → Q (.ref q) G) : tLc (iList K (tVar i)) (gName j) tYes (tOp (rIxT K) (tVar j) (tC (.int 0))) [j] σ H Q := by
  obtain ⟨⟨D, rfl, hu, hr⟩, n, up, l⟩ := a
  refine ⟨_, hi, u, rfl, ⟨_, SqL.of hu⟩, fun q1 hq1 => ?_⟩
  have s0 := same_up (o := .lst []) hq1
  refine lc_list (K := K) (a := u) (xs := D.map rv) (fun i F => Same H F ∧ F q1 = some (.lst (((((D.take i).map rd).map momD)).map V.int))) ⟨s0, by rw [List.take_zero]; exact upd_same⟩ (fun _ _ _ g => SqL.of (g.1 _ _ hu)) ?_ ?_
  · rintro i y F hy ⟨sF, hD'⟩
    obtain ⟨r, hr2, ey⟩ := Option.map_eq_some_iff.mp ((List.getElem?_map).symm.trans hy)
    have rp := (hr r (List.mem_of_getElem? hr2)).same sF
    obtain ⟨a', vs', ev, ht⟩ := deed_head rp.2.1 (rp.1 false)
    have ey : rv r = y := ey
    rw [ev] at ey
    subst ey
    refine ⟨hw _, yesT ⟨_, hj _, a', _, _, .int (momD (rd r)), rfl, rfl, ht.sq, atI_nat (j := 0) rfl, _, hD', ?_, sup hq1 sF, ?_⟩⟩
    · rw [List.length_map, List.length_map, List.length_map, List.length_take]
      rw [List.length_map] at l
      exact small1000 (by omega)
    · rw [upd_same, take_snoc hr2, List.map_append, List.map_append, List.map_append]
      rfl
  · rintro F ⟨sF, hD'⟩
    rw [List.length_map, List.take_length] at hD'
    exact q q1 F sF hq1 hD'
theorem seq_at {te : TE} {g : TG} {u : TS} {D : Ends} {σ : L2.St} {H : Hp} (h : te σ H fun x H1 => g x σ H1 (u D)) : tSeq (tAsg te g) u D σ H := h
theorem seq_if {c : TT} {a b u : TS} {D : Ends} {σ : L2.St} {H : Hp} (h : c σ H fun k H1 => if k = true then a { D with nx := u D } σ H1 else b { D with nx := u D } σ H1) : tSeq (tIfS c a b) u D σ H := h
abbrev nIP : List Str := ["_law_past", "_law_due", "_law_moments", "_law_deed_here", "_law_moment"]
def spIsP (C : Addr) : Sp := fun vs H Q _ => ∃ (p u z : Addr) (ds : List PyData), vs = [.ref p, .ref u] ∧ PV C z H p ds ∧ DueAt z H u ds ∧ (∃ o, H z = some o) ∧ ∀ G, Same H G → Q (.bl true) G
section
variable {P : Program} {w : World} {K : PySem.W.Frag} {mg : Str → Option Value} {base : Heap} {C CM : Addr}
theorem scIsP : FnScope nIP ["_law_past", "_law_due"] (defScope sIsPast) := ⟨rfl, rfl, rfl, by decide +kernel, rfl, by decide +kernel, by decide +kernel⟩
theorem ok_ispast {f : Addr} {fd : FuncData} (F : Fun K "_law_is_past" "_law_is_past" sIsPast f fd) (T : Cst K mg) (T2 : Cs2 mg) (D : PsD P w K mg base C CM) : FnG P w K mg base 6 f fd ["_law_past", "_law_due"] (spIsP C) := by
  obtain ⟨fS, fdS, GS, meS, bS, _⟩ := D.ds.ex
  obtain ⟨fL, fdL, GL, meL, bL, _⟩ := D.li.ex
  have pc := D.pc.cls
  refine okG F scIsP (fun vs H Q E h => ?_) (fun cdv A outer s H vs Q E hgd hr h => ?_)
  · obtain ⟨p, u, z, ds, rfl, _⟩ := h
    rfl
  · obtain ⟨p, u, z, ds, rfl, hp, hd, hz, q⟩ := h
    have hu : (A.deeper (envOfC "_law_is_past" (defScope sIsPast) s.heap.objs.size f cdv)).units + 64 < cLine := by
      have := hr.un
      omega
    have tk0 : ∀ {X : Cx}, Takes X fun _ _ _ _ => False := takes0
    refine ⟨_, pss_cons (ps_setLc (i := 2) (own := [("_law_deed_here", 3)]) (g := gName 3) (tt := tYes) rfl scIsP.nd rfl rfl (sw_true rfl rfl rfl (by decide +kernel)) (pi_list (pv 1)) (blkOk_by (own := [("_law_deed_here", 3)]) (N := nIP) (sc := defScope sIsPast) (by decide +kernel))
        (fun _ _ _ _ _ => pg_name (i := 3) scIsP.nd rfl (Or.inl rfl)) (fun _ _ _ _ _ => pts_nil) (fun _ _ _ _ _ => pe_ix (show IxR _ (rIxT K) from ix_tup) (pv 3) pe_int (fun _ _ => rfl)))
      (pss_cons (ps_if (PW.pt (pw_or (pt_cmpR op_ne (pe_callB (call_repr hgd hu) (by rfl) T2.rpr (by decide +kernel) (pa_cons (pe_meth0 (pv 0) pc meS GS (hr.mono (by decide)) bS .nil pass0) pa_nil)) (pe_callB (call_repr hgd hu) (by rfl) T2.rpr (by decide +kernel) (pa_cons (pv 1) pa_nil)) (nomark _))
          (pw_or1 (pt_cmpR op_ne (pe_callB (cr_lenO (D.le.dun (E := E0) pass0) (hr.mono (by decide))) (by rfl) T.len PySem.boot_len (pa_cons (pv 0) pa_nil)) (pe_callB call_len_seq (by rfl) T.len PySem.boot_len (pa_cons (pv 1) pa_nil)) (nomark _))))) (pss_one (ps_ret pe_bl)) pss_nil)
      (pss_cons (ps_if (pt_cmpR (op_neD hu) (pe_meth0 (pv 0) pc meL GL (hr.mono (by decide)) bL .nil pass0) (pv 2) (nomark _)) (pss_one (ps_ret pe_bl)) pss_nil)
      (pss_cons (ps_if (PW.pt (pw_or (pt_cmpR (op_neD hu) (pe_lc (own := [("_law_moment", 4)]) (g := gName 4) (tt := tYes) rfl scIsP.nd (pi_list (pv 2)) (blkOk_by (own := [("_law_moment", 4)]) (N := nIP) (sc := defScope sIsPast) (by decide +kernel))
          (fun _ _ _ _ _ => pg_name (i := 4) scIsP.nd rfl (Or.inl rfl)) (fun _ _ _ _ _ => pts_nil) (fun _ _ _ _ _ => pe_ixO (D.gi.dun (E := fun _ _ _ => False) (passes_call takes0 fun _ _ _ _ h => h)) D.gi.fnI (hr.mono (by decide)) (pv 0) (pv 4))) (pv 1) (nomark _))
          (pw_or1 (pt_cmpR (op_neD hu) (pe_lc (own := [("_law_moment", 4)]) (g := gName 4) (tt := _) rfl scIsP.nd (pi_list (pv 2)) (blkOk_by (own := [("_law_moment", 4)]) (N := nIP) (sc := defScope sIsPast) (by decide +kernel))
          (fun _ _ _ _ _ => pg_name (i := 4) scIsP.nd rfl (Or.inl rfl)) (fun _ _ _ _ _ => pts_one (pt_cmpR (op_notInO (D.ct.dun (E := E0) pass0) (hr.mono (by decide))) (pv 4) (pv 0) (by rfl))) (fun _ _ _ _ _ => pv 4)) (pe_lst pa_nil) (nomark _))))) (pss_one (ps_ret pe_bl)) pss_nil)
      (pss_cons (ps_expr (pe_bm PySem.F.plainAttrs_list PySem.F.slot_list_append PySem.F.type_list_append mt_append (pe_meth0 (pv 0) pc meS GS (hr.mono (by decide)) bS .nil pass0) (pa_cons pe_non pa_nil)))
      (pss_cons (ps_expr (pe_bm PySem.F.plainAttrs_list PySem.F.slot_list_append PySem.F.type_list_append mt_append (pe_meth0 (pv 0) pc meL GL (hr.mono (by decide)) bL .nil pass0) (pa_cons pe_int pa_nil)))
      (pss_one (ps_ret (pe_and (pe_cmpR op_eq (pe_callB (call_repr hgd hu) (by rfl) T2.rpr (by decide +kernel) (pa_cons (pe_meth0 (pv 0) pc meS GS (hr.mono (by decide)) bS .nil pass0) pa_nil)) (pe_callB (call_repr hgd hu) (by rfl) T2.rpr (by decide +kernel) (pa_cons (pv 1) pa_nil)) (nomark _))
        (pe_one (pe_cmpR (op_eqD hu) (pe_meth0 (pv 0) pc meL GL (hr.mono (by decide)) bL .nil pass0) (pv 2) (nomark _))))))))))), ?_⟩
    refine seq_at (lc_moms (i := 1) (j := 3) (σ := [some (.ref p), some (.ref u), none, none, none]) hd rfl (fun _ => rfl) (fun _ => rfl) fun mL G1 s1 nm hm => seq_if ?_)
    have hp := hp.same s1
    have hd := hd.same s1
    have hz : ∃ o, G1 z = some o := hz.imp fun _ h => s1 _ _ h
    obtain ⟨dx, fs, hi, l1, l2, _, _⟩ := id hp.ins
    have rdR : ∀ {G : Hp} {σ : L2.St} {k : VK}, Same G1 G → σ[0]? = some (some (.ref p)) → (∀ u G2, Same G G2 → G u = none → DueAt z G2 u ds → k (.ref u) G2) → tMeth C "deeds" (spDs C) [] E0 (tVar 0) tNil σ G k := fun {G σ k} s h0 h => ⟨_, h0, p, dx, fs, rfl, s _ _ hi, l1, pv_deeds (E := E0) (hp.same s) (hz.imp fun _ h => s _ _ h) h⟩
    have rdL : ∀ {G : Hp} {σ : L2.St} {k : VK}, Same G1 G → σ[0]? = some (some (.ref p)) → (∀ u G2, Same G G2 → G u = none → G2 u = some (.lst ((ds.map momD).map V.int)) → k (.ref u) G2) → tMeth C "listed" (spLst C) [] E0 (tVar 0) tNil σ G k := fun {G σ k} s h0 h => ⟨_, h0, p, dx, fs, rfl, s _ _ hi, l2, pv_listed (E := E0) (hp.same s) h⟩
    have l60 := hp.len
    refine reprs_ne (i := 1) rfl (fun k h => rdR (Same.refl _) rfl fun u G s _ => h u G s) hd fun G2 s2 => ⟨_, rfl, iteF ?_⟩
    obtain ⟨⟨D0, eD, hD0, hr0⟩, nD, upD, lD⟩ := id (hd.same s2)
    have lD0 : D0.length = ds.length := by rw [← eD, List.length_map]
    refine ⟨_, rfl, p, dx, fs, rfl, s2 _ _ hi, pv_len (E := E0) (hp.same s2) ⟨_, rfl, by omega, by omega, _, rfl, u, _, rfl, .inl (SqL.of hD0), rfl, _, rfl, ?_⟩⟩
    rw [List.length_map, lD0, show (!decide (V.int (ds.length : Nat) = V.int (ds.length : Nat))) = false from by simp]
    refine iteF ?_
    refine rdL s2 rfl fun u3 G3 s3 n3 h3 => ⟨_, rfl, ne_ints ((hd.same s2).same s3) h3 ((s2.trans s3) _ _ hm) ⟨_, rfl, iteF ?_⟩⟩
    have t3 := s2.trans s3
    refine ⟨_, rfl, mL, rfl, ⟨_, SqL.of (t3 _ _ hm)⟩, fun q4 hq4 => ?_⟩
    have s40 := same_up (o := .lst []) hq4
    have z4 : q4 ≠ z := by
      obtain ⟨o, ho⟩ := hz
      exact (ne_of_none (t3 _ _ ho) hq4).symm
    refine lc_list (K := K) (a := mL) (xs := (ds.map momD).map V.int) (fun i F => Same G3 F ∧ ∃ D : List RowD, D.map rd = ds.take i ∧ F q4 = some (.lst (D.map rv)) ∧ ∀ r ∈ D, RP z F r) ⟨s40, [], by simp, upd_same, fun r h => by cases h⟩ (fun _ _ _ g => SqL.of ((t3.trans g.1) _ _ hm)) ?_ ?_
    · rintro i y F hy ⟨sF, D1, e1, hF, hr1⟩
      rw [List.map_map] at hy
      obtain ⟨d, hd2, ey⟩ := Option.map_eq_some_iff.mp ((List.getElem?_map).symm.trans hy)
      have ey : V.int (momD d) = y := ey
      subst ey
      refine ⟨rfl, yesT ⟨_, rfl, _, rfl, p, dx, fs, rfl, (t3.trans sF) _ _ hi, pv_get (hp.same (t3.trans sF)) (List.mem_of_getElem? hd2) fun v F2 s5 rp => ⟨_, s5 _ _ hF, ?_, sup hq4 (sF.trans s5), D1 ++ [(momD d, v, d)], ?_, ?_, fun r hr' => ?_⟩⟩⟩
      · have l1 := congrArg List.length e1
        rw [List.length_map, List.length_take] at l1
        rw [List.length_map]
        exact small1000 (by omega)
      · rw [List.map_append, e1, take_snoc hd2]
        rfl
      · rw [upd_same, List.map_append]
        rfl
      · have fresh : ∀ {r : RowD}, RP z F2 r → RP z (upd F2 q4 (.lst (D1.map rv ++ [v]))) r := fun {r} rp => rp.off (s5 _ _ hF)
        rcases List.mem_append.mp hr' with h | h
        · exact fresh ((hr1 r h).same s5)
        · rw [List.mem_singleton.mp h]
          exact fresh rp
    · rintro F ⟨sF, D1, e1, hF, hr1⟩
      rw [List.length_map, List.length_map, List.take_length] at e1
      have t4 := t3.trans sF
      have d4 : DueAt z F q4 ds := ⟨⟨D1, e1, hF, hr1⟩, z4, hd.up, hd.len⟩
      refine ⟨_, rfl, ne_dues d4 (hd.same t4) ⟨_, rfl, iteF ?_⟩⟩
      refine ⟨_, rfl, mL, rfl, ⟨_, SqL.of (t4 _ _ hm)⟩, fun q5 hq5 => ?_⟩
      have s50 := same_up (o := .lst []) hq5
      refine lc_list (K := K) (a := mL) (xs := (ds.map momD).map V.int) (fun i F2 => Same F F2 ∧ F2 q5 = some (.lst [])) ⟨s50, upd_same⟩ (fun _ _ _ g => SqL.of ((t4.trans g.1) _ _ hm)) ?_ ?_
      · rintro i y F2 hy ⟨sF2, h5⟩
        rw [List.map_map] at hy
        obtain ⟨d, hd2, ey⟩ := Option.map_eq_some_iff.mp ((List.getElem?_map).symm.trans hy)
        have ey : V.int (momD d) = y := ey
        subst ey
        have t5 := t4.trans sF2
        refine ⟨rfl, _, rfl, _, rfl, p, dx, fs, rfl, t5 _ _ hi, pv_cont (m := false) (k := false) (z' := z) (hp.same t5) (.int (momD d)) (mom_w (hp.deed (List.mem_of_getElem? hd2))) fun G5 s5 => ⟨_, rfl, _, rfl, ?_⟩⟩
        rw [show inM ds (.int (momD d)) = true from decide_eq_true (List.mem_map.mpr ⟨d, List.mem_of_getElem? hd2, rfl⟩)]
        exact iteF ⟨sF2.trans s5, s5 _ _ h5⟩
      · rintro F2 ⟨sF2, h5⟩
        have t5 := t4.trans sF2
        refine ⟨by show 0 ≤ sizeLine; decide, fun q6 hq6 => ne_nil (((same_up hq6)) _ _ h5) upd_same ⟨_, rfl, iteF ?_⟩⟩
        have t6 := t5.trans (same_up (o := .lst []) hq6)
        generalize upd F2 q6 (.lst []) = F3 at t6 ⊢
        refine rdR t6 rfl fun u7 F7 s7 n7 d7 => ?_
        obtain ⟨⟨D7, e7, h7, r7⟩, z7, up7, l7⟩ := d7
        have l7' : D7.length = ds.length := by rw [← e7, List.length_map]
        refine ⟨.inl ⟨rfl, _, SqL.of h7⟩, u7, _, _, rfl, rfl, h7, ?_, ?_⟩
        · rw [List.length_map]
          exact small1000 (by omega)
        have t7 := t6.trans (sup (o := .lst (D7.map rv ++ [V.non])) n7 s7)
        generalize upd F7 u7 (.lst (D7.map rv ++ [V.non])) = F8 at t7 ⊢
        refine rdL t7 rfl fun u9 F9 s9 n9 h9 => ?_
        refine ⟨.inl ⟨rfl, _, SqL.of h9⟩, u9, _, _, rfl, rfl, h9, ?_, ?_⟩
        · rw [List.length_map, List.length_map]
          exact small1000 (by omega)
        have t9 := t7.trans (sup (o := .lst ((ds.map momD).map V.int ++ [V.int 0])) n9 s9)
        generalize upd F9 u9 (.lst ((ds.map momD).map V.int ++ [V.int 0])) = F10 at t9 ⊢
        refine reprs_eq (i := 1) rfl (fun k h => rdR t9 rfl fun u G s _ => h u G s) (hd.same t9) fun G11 s11 => ⟨_, rfl, iteT ?_⟩
        refine rdL (t9.trans s11) rfl fun u12 G12 s12 n12 h12 => ⟨_, rfl, eq_ints (hd.same ((t9.trans s11).trans s12)) h12 (((t9.trans s11).trans s12) _ _ hm) (q _ ?_)⟩
        exact s1.trans ((t9.trans s11).trans s12)
end
end Pl

namespace Pl
open L2 PySem PySem.Spec PyProof.Rows
theorem Src.same {z : Addr} {H G : Hp} (h : Src z H) (s : Same H G) : Src z G := by
  obtain ⟨x, y, e, r⟩ := h
  exact ⟨x, y, s _ _ e, r⟩
section
open PySem.W
theorem nodup_inj {α β : Type} {f : α → β} : ∀ {l : List α} {a b : α}, (l.map f).Nodup → a ∈ l → b ∈ l → f a = f b → a = b
  | [], _, _, _, h, _, _ => by cases h
  | c :: l, a, b, n, ha, hb, e => by
    rw [List.map_cons, List.nodup_cons] at n
    rcases List.mem_cons.mp ha with e1 | a2
    · rcases List.mem_cons.mp hb with e2 | b2
      · exact e1.trans e2.symm
      · exact absurd (List.mem_map.mpr ⟨b, b2, by rw [← e, e1]⟩) n.1
    · rcases List.mem_cons.mp hb with e2 | b2
      · exact absurd (List.mem_map.mpr ⟨a, a2, by rw [e, e2]⟩) n.1
      · exact nodup_inj n.2 a2 b2 e
theorem nodup_of_map {α β : Type} {f : α → β} : ∀ {l : List α}, (l.map f).Nodup → l.Nodup
  | [], _ => List.nodup_nil
  | c :: l, n => by
    rw [List.map_cons, List.nodup_cons] at n
    rw [List.nodup_cons]
    exact ⟨fun h => n.1 (List.mem_map.mpr ⟨c, h, rfl⟩), nodup_of_map n.2⟩
theorem toks_pair (s : Str) (n : Int) : keyToks (encP (s, n)) = .inl 1 :: .inr s.cps.toList :: .inl 1 :: .inl n :: [.inl 0] := by
  simp [encP, keyToks, keyToksAll]
theorem lt_pair {a b : PB} (h : a.2.1 ≠ b.2.1) : PyProof.Rows.lexLt itemOrd (keyToks (encP a.2)) (keyToks (encP b.2)) = PyProof.Rows.lexLt itemOrd (keyToks (.str a.2.1)) (keyToks (.str b.2.1)) := by
  obtain ⟨u, s, n⟩ := a
  obtain ⟨v, t, k⟩ := b
  have ne : (Sum.inr s.cps.toList : Int ⊕ List Nat) ≠ .inr t.cps.toList := fun e => h (str_of_cps (Sum.inr.inj e))
  show PyProof.Rows.lexLt itemOrd (keyToks (encP (s, n))) (keyToks (encP (t, k))) = PyProof.Rows.lexLt itemOrd (keyToks (.str s)) (keyToks (.str t))
  rw [toks_pair, toks_pair]
  simp only [keyToks]
  exact (lex_self (O := itemOrd) _ _ _).trans ((lex_diff (O := itemOrd) ne).trans (lex_diff (O := itemOrd) ne).symm)
theorem sort_same {bs : List PB} (nd : (bs.map fun b => b.2.1).Nodup) : bs.mergeSort leN = bs.mergeSort leP := by
  refine sort_congr fun a ha b hb => ?_
  show (!PyProof.Rows.lexLt itemOrd (keyToks (.str b.2.1)) (keyToks (.str a.2.1))) = (!PyProof.Rows.lexLt itemOrd (keyToks (encP b.2)) (keyToks (encP a.2)))
  by_cases h : b.2.1 = a.2.1
  · have := nodup_inj nd hb ha h
    subst this
    have i1 := lex_irrefl (O := itemOrd) (keyToks (.str b.2.1))
    have i2 := lex_irrefl (O := itemOrd) (keyToks (encP b.2))
    rw [i1, i2]
  · rw [lt_pair h]
end
def cutD (ds : List PyData) (lo hi : Option Int) : List PyData := (ds.drop (HT.sIx ds.length 0 lo)).take (HT.sIx ds.length ds.length hi - HT.sIx ds.length 0 lo)
section
variable {K : PySem.W.Frag} {m k k' : Bool} {z a b : Addr} {G : Hp} {ds es : List PyData} {Q : VK}
theorem catT (s : Src z G) (ha : Dv m z G k (.ref a) (.tuple ds)) (hb : Dv m z G k' (.ref b) (.tuple es)) (hl : ds.length + es.length ≤ 1000)
    (q : ∀ p G', Same G G' → Dv m z G' false (.ref p) (.tuple (ds ++ es)) → Q (.ref p) G') : rCatA K (.ref a) (.ref b) G Q := by
  obtain ⟨oz, hz⟩ := s.some
  cases ha with
  | @tup _ _ xs _ n1 t1 l1 =>
  cases hb with
  | @tup _ _ ys _ n2 t2 l2 =>
  have e1 := l1.len
  have e2 := l2.len
  refine ⟨a, b, xs, ys, rfl, rfl, t1.sq, t2.sq, by rw [e1, e2]; exact sz1000 hl, fun e => ?_, fun _ e => ?_, fun _ _ p hp => ?_⟩
  · subst e
    have : ds = [] := List.length_eq_zero_iff.mp e1.symm
    subst this
    exact q b G (Same.refl _) (.tup n2 t2.weak l2)
  · subst e
    have : es = [] := List.length_eq_zero_iff.mp e2.symm
    subst this
    exact q a G (Same.refl _) (by rw [List.append_nil]; exact .tup n1 t1.weak l1)
  · have bb := But.new (z := z) (o := HO.tup (xs ++ ys)) hp
    exact q p _ (same_new hp) (.tup (ne_of_none hz hp).symm (.any upd_same) ((DvL.to bb _ _ _ l1).app (DvL.to bb _ _ _ l2)))
end
theorem sliceT1 {K : PySem.W.Frag} {m k : Bool} {z a : Addr} {G : Hp} {ds : List PyData} {lo hi : Option Int} {Q : VK} (s : Src z G) (ha : Dv m z G k (.ref a) (.tuple ds)) (hw : ¬ (HT.sIx ds.length 0 lo = 0 ∧ HT.sIx ds.length ds.length hi = ds.length))
    (q : ∀ p G', Same G G' → Dv m z G' false (.ref p) (.tuple (cutD ds lo hi)) → Q (.ref p) G') : rSlT K (.ref a) lo hi G Q := by
  obtain ⟨oz, hz⟩ := s.some
  cases ha with
  | @tup _ _ xs _ n1 t1 l1 =>
  have e1 := l1.len
  refine ⟨a, xs, rfl, t1.sq, by rw [e1]; exact hw, fun p hp => ?_⟩
  refine q p _ (same_new hp) (.tup (ne_of_none hz hp).symm (.any upd_same) ?_)
  have bb := But.new (z := z) (o := HO.tup (cutV xs lo hi)) hp
  show DvL m z _ true ((xs.drop (HT.sIx xs.length 0 lo)).take (HT.sIx xs.length xs.length hi - HT.sIx xs.length 0 lo)) (cutD ds lo hi)
  rw [e1]
  exact ((DvL.to bb _ _ _ l1).drop _).take _
theorem Src.ext {z : Addr} {H G : Hp} (h : Src z H) (e : LamX.ExtN H G) : Src z G := by
  obtain ⟨x, y, hz, r⟩ := h
  exact ⟨x, y, e _ _ hz (fun _ q => by cases q), r⟩
section
open PySem.W
variable {X : Cx}
def tSortT (T : List (Addr × Str)) (te : TE) : TE := fun σ H Q => te σ H fun v H1 => LamX.Tabs T H1 ∧ ∃ (m : Bool) (z a : Addr) (bs : List PB), v = .ref a ∧ TupAt H1 true a (bs.map (·.1)) ∧ Prs m z H1 bs ∧
  ∀ H2 p, LamX.ExtN H1 H2 → LamX.Tabs T H2 → H2 p = none → Q (.ref p) (upd H2 p (.lst ((bs.mergeSort leN).map (·.1))))
theorem pe_sortT {e : Expr} {te : TE} {x : Str} {params : Arguments} {body : Expr} {scope : Scope} {c P : Addr} {p lpos kpos pos : Pos} (L : LamT x params body scope) (hg : Gl X "sorted") (hm : X.mg "sorted" = none) (he : PE X e te) (TB : LamX.TabB X.base X.mg c P)
    {T : List (Addr × Str)} (hT0 : (P, X.env.qual ++ "<lambda>") ∈ T) (hT1 : ∀ p ∈ T, p.1 = P → p.2 = X.env.qual ++ "<lambda>") (hcode : X.env.code = .ref c) (hr : Room 2 X.A) (hdef : defaultsOf params X.env = ([], []) := by rfl)
    (hst : backTo pos (starEach [e] X.env) = (false, eval e X.env) :: backTo pos (starEach [] X.env) := by rfl) (hpl : (backTo pos (starEach [e] X.env)).any (·.1) = false := by rfl) :
    PE X (.Call (.Name "sorted" p) [e] [⟨some "key", .Lambda params body scope lpos, kpos⟩] pos) (tSortT T te) := by
  refine ⟨fun pins s σ H Q I h => ?_⟩; skip
  refine wpAny_Call_Name_kw (ld_blt I hg hm boot_sorted ?_)
  refine PyProof.Rows.callWith_kw ?_ hst hpl (by rfl) (by rfl)
  rw [hst]
  refine Calls.spliced_cons (thn (he.run pins s σ H _ I h) fun v s1 ⟨w, H1, I1, r1, hT, m, z, a, bs, e1, ha, hp, q⟩ => Calls.spliced_nil ?_)
  subst e1
  obtain rfl : v = Value.ref a := r1; skip
  show wpAny _ _ (evalAll [do let v ← eval (.Lambda params body scope lpos) X.env; standAt pos; pure v]) _ _ s1
  refine wpAny_evalAll_cons (wpAny_bind (LamX.lam_make2 (T := T) (c := c) (P := P) I1 TB hcode hT0 hT1 hT hdef (fun y hy hfr => ?_) fun f c' pm ctv H2 s2 I2 eN T2 hf hfn _ hco => ?_))
  · rw [L.names, List.mem_singleton] at hy
    rw [hy] at hfr
    cases hfr
  refine wpAny_bind (wpAny_standAt (wpAny_pure (wpAny_evalAll_nil ?_)))
  show wpAny _ _ (call (.builtin "sorted") [.ref a] [(Str.ofString "key", .ref f)]) _ _ s2
  obtain ⟨⟨oc, vs, t, hoc, hdc, hvc⟩, _, _⟩ := I2.hok c' _ hco
  have ha2 : TupAt H2 true a (bs.map (·.1)) := ha.ext eN
  have hp2 : Prs m z H2 bs := fun b mb => Dv.ext eN _ _ _ (hp b mb)
  obtain ⟨its, rv, ht, hz⟩ := I2.tuple ha2.sq
  have ee := each_of rv
  have hz' : bs.length ≤ sizeLine := by
    rw [List.length_map] at hz
    exact hz
  have lim2 := I2.nolimit
  have hdp := hr.dp
  have hun := hr.un
  refine tup_sorted_key (fun b : PB => .str b.2.1) ht ee (alike_N bs) (Sortable.others fun _ => ⟨(fun z => by cases z), fun _ z => by cases z⟩) hz' (fun b _ => ?_) (fun v b rb mb h tk kp => ?_) fun out k h' tk kp hl lo eo => ?_
  · show X.A.units + 2 + (PyData.str b.2.1).depth < cLine
    have hd : (PyData.str b.2.1).depth = 0 := by simp [PyData.depth]
    rw [hd]
    omega
  · obtain ⟨as, rd, _⟩ := Dv.rd I2 _ _ _ v (hp2 b mb) rb
    have hb := hp2 b mb
    have e3 : ∃ t, v = .ref t := by
      obtain ⟨bv, bp⟩ := b
      have hb' : Dv m z H2 true bv (.tuple [.str bp.1, .int bp.2]) := hb
      cases hb' with
      | tup ne hh tt => exact ⟨_, rb⟩
    obtain ⟨tt, rfl⟩ := e3
    exact lam_turn (s := { s2 with heap := h, toks := tk }) (A := X.A.in1.in1) L (by show X.A.depth < recursionLimit; omega) (lim2.keeps kp) (kp _ _ hf) ⟨oc, vs, t, kp _ _ hoc, hdc, hvc⟩ (PyProof.Rows.Reads.keeps kp rd)
  · have rv2 := vals_of eo
    have hlen : ((bs.mergeSort leN).map (·.1)).length ≤ sizeLine := by
      rw [List.length_map, (List.mergeSort_perm _ _).length_eq]
      exact hz'
    have new : H2 (s2.heap.objs.size + 1) = none := I2.hok.fresh (Nat.le_succ _)
    exact ⟨.ref _, upd H2 (s2.heap.objs.size + 1) (.lst ((bs.mergeSort leN).map (·.1))), I2.laid (t' := tk) kp (Nat.le_succ _) ⟨hlen, out, k, rv2, hl⟩, rfl, q H2 _ eN T2 new⟩
end
abbrev sKept : Stmt := top 47
abbrev lamK : Str := (envOfC "_law_kept" (defScope sKept) 0 0 (.ref 0)).qual ++ "<lambda>"
abbrev nKp : List Str := ["_law_deeds_here", "_law_found", "_law_deed_here", "_law_told", "_law_one_here", "_law_moment"]
abbrev TbL := List (Addr × Str)
theorem tabs_sub {T : TbL} {p : Addr} {q : Str} {H : Hp} (h : LamX.Tabs T H) (m : (p, q) ∈ T) : LamX.Tabs [(p, q)] H := fun x hx => by
  rw [List.mem_singleton] at hx
  subst hx
  exact h _ m
end Pl

namespace Pl
open L2 PySem PySem.Spec PyProof.Rows
theorem tabs_obj {Tb : TbL} {G : Hp} {l : Addr} {o u : HO} (t : LamX.Tabs Tb G) (h : G l = some o) (no : (∀ ps, o ≠ .tbl ps) ∧ ∀ f, o ≠ .ext f) : LamX.Tabs Tb (upd G l u) := by
  intro p hp
  obtain ⟨ps, h1, h2, h3⟩ := t p hp
  have n1 : p.1 ≠ l := fun e => by
    rw [e, h] at h1
    exact no.1 _ (Option.some.inj h1)
  refine ⟨ps, (upd_ne n1).trans h1, h2, fun pos cv hc => ?_⟩
  obtain ⟨c, e1, e2⟩ := h3 pos cv hc; skip
  have n2 : c ≠ l := fun e => by
    rw [e, h] at e2
    exact no.2 _ (Option.some.inj e2)
  exact ⟨c, e1, (upd_ne n2).trans e2⟩
theorem tabs_upd {Tb : TbL} {G : Hp} {l : Addr} {xs : List V} {u : HO} (t : LamX.Tabs Tb G) (h : G l = some (.lst xs)) : LamX.Tabs Tb (upd G l u) := tabs_obj t h ⟨fun _ q => (nomatch q), fun _ q => (nomatch q)⟩
theorem tabs_dK {Tb : TbL} {G : Hp} {l : Addr} {kvs : List (Key × V)} {u : HO} (t : LamX.Tabs Tb G) (h : G l = some (.dK kvs)) : LamX.Tabs Tb (upd G l u) := tabs_obj t h ⟨fun _ q => (nomatch q), fun _ q => (nomatch q)⟩
theorem tabs_but {z : Addr} {Tb : TbL} {H G : Hp} (b : But z H G) (s : Src z H) (t : LamX.Tabs Tb H) : LamX.Tabs Tb G := by
  obtain ⟨x, y, hz, _⟩ := s
  intro p hp
  obtain ⟨ps, h1, h2, h3⟩ := t p hp
  have n1 : p.1 ≠ z := fun e => by
    rw [e, hz] at h1
    cases h1
  refine ⟨ps, b _ _ n1 trivial h1, h2, fun pos cv hc => ?_⟩
  obtain ⟨c, e1, e2⟩ := h3 pos cv hc; skip
  have n2 : c ≠ z := fun e => by
    rw [e, hz] at e2
    cases e2
  exact ⟨c, e1, b _ _ n2 trivial e2⟩
theorem RP.dict {z W : Addr} {H : Hp} {r : RowD} {kvs : List (Key × V)} {o : HO} (h : RP z H r) (hW : H W = some (.dK kvs)) (hz : ∃ ys, H z = some (.lst ys)) : RP z (upd H W o) r := by
  obtain ⟨ys, hz⟩ := hz
  have ne : ∀ {b u}, H b = some u → (∀ ks, u ≠ .dK ks) → b ≠ W := fun {b u} hb no e => by
    rw [e, hW] at hb
    exact no _ (Option.some.inj hb).symm
  have st : ∀ {b u}, H b = some u → (∀ ks, u ≠ .dK ks) → upd H W o b = some u := fun hb no => (upd_ne (ne hb no)).trans hb
  exact ⟨fun m => dv_tup (G := upd H W o) (fun b xs hb => st hb fun _ q => (nomatch q)) (fun b o xs hb => st hb fun _ q => (nomatch q)) (st hz fun _ q => (nomatch q)) false _ _ (noLD_deed h.2.1) (h.1 m), h.2⟩
theorem ext_sup {H G : Hp} {D : Addr} {o : HO} (hD : H D = none) (s : LamX.ExtN H G) : LamX.ExtN H (upd G D o) := fun b u hb t => by
  rw [upd_ne (ne_of_none hb hD)]
  exact s b u hb t
theorem src_lst {z : Addr} {H : Hp} (h : Src z H) : ∃ ys, H z = some (HO.lst ys) := by
  obtain ⟨x, y, e, _⟩ := h
  exact ⟨_, e⟩
/-- one handed in, as it lies -/
def Eld (z : Addr) (H : Hp) (q : V × PyData) : Prop := (∀ m, Dv m z H false q.1 q.2) ∧ isDeed q.2 = true ∧ Bd 210 3 q.2
theorem Eld.bn {z : Addr} {H G : Hp} {q : V × PyData} (h : Eld z H q) (b : BN z H G) : Eld z G q := ⟨fun m => Dv.bn b _ _ _ (h.1 m), h.2⟩
theorem Eld.el {z : Addr} {H : Hp} {q : V × PyData} (h : Eld z H q) : El z H q := ⟨h.1 false, Nat.le_trans h.2.2.w (by decide), fun _ => h.2.2⟩
theorem RP.eld {z : Addr} {H : Hp} {r : RowD} (h : RP z H r) : Eld z H r.2 := ⟨h.1, h.2.1, h.2.2.2.2⟩
def spKept (Tb : TbL) : Sp := fun vs H Q _ => ∃ (l z : Addr) (A : List (V × PyData)), vs = [.ref l] ∧ Src z H ∧ LamX.Tabs Tb H ∧ H l = some (.lst (A.map (·.1))) ∧ l ≠ z ∧ A.length ≤ 60 ∧ (∀ q ∈ A, Eld z H q) ∧ ((A.map (·.2)).map momD).Nodup ∧
  ∀ u G, LamX.ExtN H G → LamX.Tabs Tb G → DueAt z G u (srtD ((A.map (·.2)).map inOrd)) → Q (.ref u) G
/-- the deed as it is kept -/
theorem told_at {K : PySem.W.Frag} {Tb : TbL} {z : Addr} {H : Hp} {q : V × PyData} {y0 y1 y4 y5 : Option V} {D : Ends} (e : Eld z H q) (hz : Src z H) (hT : LamX.Tabs Tb H)
    (next : ∀ v' G, LamX.ExtN H G → LamX.Tabs Tb G → (∀ m, Dv m z G false v' (inOrd q.2)) → D.nx [y0, y1, some q.1, some v', y4, y5] G) :
    tIfS (tTest (tOp rEq (tOp (rIxT K) (tVar 2) (tC (V.int 1))) (tC (V.str "put"))))
      (tAsg (tOp (rCatA K) (tSl (rSlT K) (tVar 2) tNoPart (tPart (tC (V.int 3)))) (tTup (tCons (tCB rTupF (tCons (tSortT Tb (tOp (rIxT K) (tVar 2) (tC (V.int 3)))) tNil)) tNil))) (gName 3)) tNext D [y0, y1, some q.1, some q.1, y4, y5] H := by
  obtain ⟨v, d⟩ := q
  obtain ⟨hd, isd, hb⟩ := e
  have hdf := hd false
  rcases deed_cases isd with ⟨mo, k, ps, rfl, _, _, _, _, l4, isp, nd, en⟩ | ⟨mo, x, p, r, rfl, _, _, ne, en, _⟩
  · obtain ⟨a, xs, rfl, nz, ht, hl⟩ := hdf.tupD
    cases hl with
    | @cons _ v1 _ _ _ h1 t1 =>
    cases t1 with
    | @cons _ v2 _ _ _ h2 t2 =>
    cases t2 with
    | @cons _ v3 _ _ _ h3 t3 =>
    cases t3 with
    | @cons _ v4 _ _ _ h4 t4 =>
    cases t4
    cases h2
    obtain ⟨a4, ys, rfl, ne4, ht4, hl4⟩ := h4.tupD
    obtain ⟨bs, eb, ed, hbs⟩ := prs_of hl4 isp
    subst eb
    have nd : (bs.map fun b => b.2.1).Nodup := by
      have en : bs.map (fun b => b.2.1) = ps.map nmOf := by
        rw [← ed, List.map_map]
        rfl
      rw [en]
      exact nd
    refine ⟨_, rfl, a, _, _, .str "put", rfl, rfl, ht.sq, atI_nat (j := 1) rfl, rfl, _, rfl, ?_⟩
    rw [decide_eq_true rfl]
    refine iteT ?_
    refine ⟨_, rfl, 3, rfl, sliceT1 hz hdf (show ¬ (HT.sIx 4 0 none = 0 ∧ HT.sIx 4 4 (some 3) = 4) by decide) fun p1 G1 s1 hs1 => ?_⟩
    have hc : cutD [.int mo, .str "put", .int k, .tuple ps] none (some 3) = [.int mo, .str "put", .int k] := rfl
    rw [hc] at hs1
    have ht1 := ht.to (But.of (z := z) s1) nz
    refine ⟨_, rfl, a, _, _, .ref a4, rfl, rfl, ht1.sq, atI_nat (j := 3) rfl, hT.ext s1, false, z, a4, bs, rfl, ht4.to (But.of (z := z) s1) ne4, hbs.to (But.of s1), fun H2 p2 eN T2 np2 => ?_⟩
    refine ⟨p2, _, rfl, upd_same, fun p3 o3 np3 ho => ⟨by show 1 ≤ sizeLine; decide, fun p4 np4 => ?_⟩⟩
    have eH2 : LamX.ExtN H H2 := (LamX.ExtN.of s1).trans eN
    have hz2 : Src z H2 := hz.ext eH2
    have hp2 : Prs false z H2 bs := fun b hb => Dv.ext eH2 _ _ _ (hbs b hb)
    have hs2 : Dv false z H2 false (.ref p1) (.tuple [.int mo, .str "put", .int k]) := Dv.ext eN _ _ _ hs1
    rw [sort_same nd] at np3 np4 ⊢
    have hL := dvl_prs (hp2.sorted leP)
    generalize (bs.mergeSort leP).map (·.1) = L at np3 np4 hL ⊢
    have sA : Same H2 (upd H2 p2 (.lst L)) := same_new np2
    have sB : Same (upd H2 p2 (.lst L)) (upd (upd H2 p2 (.lst L)) p3 (.frz o3 (.tup L))) := same_new np3
    have sC : Same (upd (upd H2 p2 (.lst L)) p3 (.frz o3 (.tup L))) (upd (upd (upd H2 p2 (.lst L)) p3 (.frz o3 (.tup L))) p4 (.tup [.ref p3])) := same_new np4
    have sD := (sA.trans sB).trans sC
    obtain ⟨oz, hzo⟩ := hz2.some
    have n3 : p3 ≠ z := (ne_of_none (sA _ _ hzo) np3).symm
    have n4 : p4 ≠ z := (ne_of_none (sB _ _ (sA _ _ hzo)) np4).symm
    refine catT (hz2.same sD) (Dv.to (But.of sD) _ _ _ hs2) (es := [.tuple ((bs.mergeSort leP).map fun b => encP b.2)]) (.tup (k := false) n4 (.any upd_same) (.cons (.tup n3 (.frz (o := o3) (sC _ _ upd_same) ho) (DvL.to (But.of sD) _ _ _ hL)) .nil)) (by show 3 + 1 ≤ 1000; decide) fun p5 G5 s5 hd5 => ?_
    have eH5 : LamX.ExtN H G5 := eH2.trans (LamX.ExtN.of (sD.trans s5))
    have ei : inOrd (.tuple [.int mo, .str "put", .int k, .tuple ps]) = .tuple [.int mo, .str "put", .int k, .tuple ((bs.mergeSort leP).map fun b => encP b.2)] := by
      rw [sorted_enc ed]
      exact (if_pos (show word (.tuple [.int mo, .str "put", .int k, .tuple ps]) = "put" from rfl)).trans rfl
    obtain ⟨zs, hzl⟩ := src_lst (hz.ext eH5)
    refine next (.ref p5) G5 eH5 (T2.ext (sD.trans s5)) fun m => ?_
    have nl : noLD (inOrd (.tuple [.int mo, .str "put", .int k, .tuple ps])) = true := noLD_deed (deed_ord isd)
    show Dv m z G5 false (.ref p5) (inOrd (.tuple [.int mo, .str "put", .int k, .tuple ps]))
    rw [ei] at nl ⊢
    exact Dv.re hzl _ _ _ nl hd5
  · obtain ⟨a, xs, rfl, nz, ht, hl⟩ := hdf.tupD
    cases hl with
    | @cons _ v1 _ _ _ h1 t1 =>
    cases t1 with
    | @cons _ v2 _ _ _ h2 t2 =>
    cases h2
    refine ⟨_, rfl, a, _, _, .str x, rfl, rfl, ht.sq, atI_nat (j := 1) rfl, rfl, _, rfl, ?_⟩
    rw [strV_eq, decide_eq_false ne]
    refine iteF (next (.ref a) H (LamX.ExtN.refl _) hT fun m => ?_)
    show Dv m z H false (.ref a) (inOrd (.tuple (.int mo :: .str x :: p :: r)))
    rw [en]
    exact hd m
end Pl

namespace Pl
open L2 PySem PySem.Spec PyProof.Rows
theorem kvR_get {L : List RowD} {i : Nat} {k : Key} {v : V} (h : (kvR L)[i]? = some (k, v)) : ∃ r, L[i]? = some r ∧ k = Sum.inl r.1 ∧ v = rv r := by
  unfold kvR at h
  rw [List.getElem?_map] at h
  obtain ⟨r, e1, e2⟩ := Option.map_eq_some_iff.mp h
  cases e2
  exact ⟨r, e1, rfl, rfl⟩
section
variable {P : Program} {w : World} {K : PySem.W.Frag} {mg : Str → Option Value} {base : Heap} {cd Pt : Addr} {Tb : TbL}
theorem scKept : FnScope nKp ["_law_deeds_here"] (defScope sKept) := ⟨rfl, rfl, rfl, by decide +kernel, rfl, by decide +kernel, by decide +kernel⟩
theorem ok_kept {f : Addr} {fd : FuncData} (F : FunC K "_law_kept" "_law_kept" sKept f cd fd) (T : Cst K mg) (TB : LamX.TabB base mg cd Pt) (hmT : (Pt, lamK) ∈ Tb) (huT : ∀ p ∈ Tb, p.1 = Pt → p.2 = lamK) : FnG P w K mg base 4 f fd ["_law_deeds_here"] (spKept Tb) := by
  refine okC F scKept (fun vs H Q E h => ?_) (fun A outer s H vs Q E hgd hr h => ?_)
  · obtain ⟨l, z, AA, rfl, _⟩ := h
    rfl
  · obtain ⟨l, z, AA, rfl, hz, hT, hl, nl, lA, hE, nd, q⟩ := h
    have hu : (A.deeper (envOfC "_law_kept" (defScope sKept) s.heap.objs.size f (.ref cd))).units + 1 < cLine := by
      have := hr.un
      omega
    refine ⟨_, pss_cons (ps_set (i := 1) scKept.nd rfl (Or.inr rfl) pe_dnewK)
      (pss_cons (ps_for PassesOwn.never rfl (pi_list (pv 0)) (pg_name (i := 2) scKept.nd rfl (Or.inl rfl))
        (pss_cons (ps_set (i := 3) scKept.nd rfl (Or.inl rfl) (pv 2))
        (pss_cons (ps_if (pt_cmpR op_eq (pe_ix (r := rIxT K) ix_tup (pv 2) pe_int (fun _ _ => rfl)) pe_str (nomark _)) (pss_one (ps_set (i := 3) scKept.nd rfl (Or.inl rfl) (pe_op op_catA (pe_slice sl_tup (pv 2) po_none (po_some pe_int)) (pe_tup (pa_cons (pe_callTy call_tupF (by rfl) T.ttup (by decide +kernel) (pa_cons (pe_sortT (x := "_law_pair") (c := cd) (P := Pt) (T := Tb) ⟨rfl, rfl, rfl, rfl, fun _ _ _ _ _ _ => rfl, ⟨_, _, _, _, rfl⟩, by decide⟩ (by rfl) T.srt (pe_ix (r := rIxT K) ix_tup (pv 2) pe_int (fun _ _ => rfl)) TB hmT huT rfl (hr.mono (by decide))) pa_nil)) pa_nil))))) pss_nil)
        (pss_one (ps_dput hu (pv 1) (pe_ix (r := rIxT K) ix_tup (pv 2) pe_int (fun _ _ => rfl)) (pv 3) rfl)))))
      (pss_one (ps_ret (pe_lc (own := [("_law_moment", 5)]) (g := gName 5) (tt := tYes) rfl scKept.nd (pi_list (pe_callB cr_sorted (by rfl) T.srt (by decide +kernel) (pa_cons (pe_lock (pe_lc (own := [("_law_one_here", 4)]) (g := gName 4) (tt := tYes) rfl scKept.nd (pi_keys (pv 1)) (blkOk_by (own := [("_law_one_here", 4)]) (N := nKp) (sc := defScope sKept) (by decide +kernel)) (fun _ _ _ _ _ => pg_name (i := 4) scKept.nd rfl (Or.inl rfl)) (fun _ _ _ _ _ => pts_nil) (fun _ _ _ _ _ => pe_callTy call_int1 (by rfl) T.tint (by decide +kernel) (pa_cons (pv 4) pa_nil)))) pa_nil)))
        (blkOk_by (own := [("_law_moment", 5)]) (N := nKp) (sc := defScope sKept) (by decide +kernel)) (fun _ _ _ _ _ => pg_name (i := 5) scKept.nd rfl (Or.inl rfl)) (fun _ _ _ _ _ => pts_nil) (fun _ _ _ _ _ => pe_dget hu (pv 1) (pv 5) (fun _ _ => rfl)))))), ?_⟩
    refine seq_at (fun W hW => ?_)
    have e0 : LamX.ExtN H (upd H W (.dK [])) := LamX.ExtN.of (same_up hW)
    have t0 : LamX.Tabs Tb (upd H W (.dK [])) := hT.ext (same_up hW)
    refine ⟨_, rfl, l, rfl, ⟨_, SqL.of (same_up hW _ _ hl)⟩, for_list (K := K) (a := l) (xs := AA.map (·.1)) (fun i σ F => (∃ x2 x3, σ = [some (.ref l), some (.ref W), x2, x3, none, none]) ∧ LamX.ExtN H F ∧ LamX.Tabs Tb F ∧ ∃ L : List RowD, F W = some (.dK (kvR L)) ∧ L.map (·.1) = ((AA.take i).map (·.2)).map momD ∧ L.map rd = ((AA.take i).map (·.2)).map inOrd ∧ ∀ r ∈ L, RP z F r)
      ⟨⟨_, _, rfl⟩, e0, t0, [], upd_same, by simp, by simp, fun r h => by cases h⟩ (fun i σ F _ h => SqL.of (h.2.1 _ _ hl fun _ q => nomatch q)) ?_ ?_⟩
    · rintro i y σ F hy ⟨⟨x2, x3, rfl⟩, eF, tF, L, hL, e1, e2, hr'⟩
      obtain ⟨p, hp, rfl⟩ := fst_get hy
      have el := (hE p (List.mem_of_getElem? hp)).bn (BN.ext eF)
      refine seq_at ⟨_, rfl, told_at el (hz.ext eF) tF fun v' G eG tG dv => ?_⟩
      have elG := el.bn (BN.ext eG)
      have hLG : G W = some (.dK (kvR L)) := eG _ _ hL fun _ q => nomatch q
      obtain ⟨a', vs', ev, ht⟩ := deed_head elG.2.1 (elG.1 false)
      have new : momD p.2 ∉ L.map (·.1) := fun h => by
        rw [e1] at h
        have h2 : ((AA.take (i + 1)).map (·.2)).map momD = (((AA.take i).map (·.2)).map momD) ++ [momD p.2] := by
          rw [take_snoc hp, List.map_append, List.map_append]
          rfl
        have n2 : (((AA.take (i + 1)).map (·.2)).map momD).Nodup := nd.sublist (((List.take_sublist _ _).map _).map _)
        rw [h2] at n2
        exact (List.nodup_append.mp n2).2.2 _ h _ List.mem_cons_self rfl
      have li : i < AA.length := (List.getElem?_eq_some_iff.mp hp).1
      have ll : L.length ≤ i := by
        have := congrArg List.length e1
        rw [List.length_map, List.length_map, List.length_map, List.length_take] at this
        omega
      refine ⟨_, rfl, _, rfl, _, rfl, a', _, _, .int (momD p.2), ev ▸ rfl, rfl, ht.sq, atI_nat (j := 0) rfl, W, _, rfl, DPut.k (k := Sum.inl (momD p.2)) hLG (by rw [kvR_len]; exact small1000 (by omega)), ?_⟩
      obtain hzl := src_lst ((hz.ext eF).ext eG)
      refine ⟨⟨_, _, rfl⟩, ext_sup hW (eF.trans eG), tabs_dK tG hLG, L ++ [(momD p.2, v', inOrd p.2)], ?_, ?_, ?_, fun r hr2 => ?_⟩
      · rw [upd_same, putK_new (d := inOrd p.2) new]
      · rw [List.map_append, e1, take_snoc hp, List.map_append, List.map_append]
        rfl
      · rw [List.map_append, e2, take_snoc hp, List.map_append, List.map_append]
        rfl
      · rcases List.mem_append.mp hr2 with h | h
        · exact ((hr' r h).bn (BN.ext eG)).dict hLG hzl
        · rw [List.mem_singleton.mp h]
          exact RP.dict (r := (momD p.2, v', inOrd p.2)) ⟨dv, deed_ord elG.2.1, (momD_ord elG.2.1).symm, ord_idem elG.2.1, bd_ord elG.2.1 elG.2.2⟩ hLG hzl
    · rintro σ F ⟨⟨x2, x3, rfl⟩, eF, tF, L, hL, e1, e2, hr'⟩
      rw [List.length_map] at e1 e2
      rw [List.take_of_length_le (Nat.le_refl _)] at e1 e2
      have ll : L.length = AA.length := by
        have := congrArg List.length e1
        rwa [List.length_map, List.length_map, List.length_map] at this
      have ndL : (L.map (·.1)).Nodup := by rw [e1]; exact nd
      refine ⟨W, _, hL, trivial, fun od => ?_⟩
      have fW : upd F W (.frz od (.dK (kvR L))) W = some (.frz od (.dK (kvR L))) := upd_same
      have backF : upd (upd F W (.frz od (.dK (kvR L)))) W (.dK (kvR L)) = F := by
        funext b
        by_cases hb : b = W
        · rw [hb, upd_same, hL]
        · rw [upd_ne hb, upd_ne hb]
      refine ⟨_, rfl, W, od, rfl, .inl ⟨kvR L, fW, fun q1 hq1 => ?_⟩⟩
      have q1W : q1 ≠ W := (ne_of_none fW hq1).symm
      refine lc_it (walk_keys (d := W) (o := od) (kvs := kvR L)) (fun i G => G W = some (.frz od (.dK (kvR L))) ∧ Same F (upd G W (.dK (kvR L))) ∧ G q1 = some (.lst (((L.take i).map (·.1)).map V.int))) ⟨(upd_ne q1W.symm).trans fW, fun b o hb => ?_, by rw [List.take_zero]; exact upd_same⟩ (fun _ _ _ g => g.1) ?_ ?_
      · by_cases h : b = W
        · rw [h] at hb ⊢
          rw [upd_same, ← hb, hL]
        · rw [upd_ne h]
          have hb2 : upd F W (.frz od (.dK (kvR L))) b = some o := (upd_ne h).trans hb
          rw [upd_ne (ne_of_none hb2 hq1)]
          exact hb2
      · rintro i x G G' hi ⟨g1, g2, g3⟩ ⟨rfl, k, v, hk, rfl⟩
        obtain ⟨r, hr2, rfl, rfl⟩ := kvR_get hk
        refine ⟨rfl, yesT ⟨_, rfl, .inl ⟨r.1, rfl, _, g3, ?_, (upd_ne q1W.symm).trans g1, fun b o hb => ?_, ?_⟩⟩⟩
        · rw [List.length_map, List.length_map, List.length_take]
          exact small1000 (by omega)
        · have h1 := g2 _ _ hb
          have hbq : b ≠ q1 := fun e => by
            rw [e] at hb
            by_cases h : q1 = W
            · exact q1W h
            · rw [upd_ne h, hb] at hq1
              cases hq1
          by_cases h : b = W
          · rw [h, upd_same]
            rw [h, upd_same] at h1
            exact h1
          · rw [upd_ne h, upd_ne hbq]
            rw [upd_ne h] at h1
            exact h1
        · rw [upd_same, take_snoc hr2, List.map_append, List.map_append]
          rfl
      · rintro G ⟨g1, g2, g3⟩
        rw [kvR_len, List.take_length] at g3
        refine ⟨g1, q1, L.map (·.1), rfl, SqL.of ((upd_ne q1W).trans g3), by rw [List.length_map]; omega, fun ns p3 pm ps hp3 => ?_⟩
        have en := sorted_is pm ps
        subst en
        have s3 := g2.trans (same_up (o := .lst ((momL L).map V.int)) hp3)
        have h3 : upd (upd G W (.dK (kvR L))) p3 (.lst ((momL L).map V.int)) p3 = some (.lst ((momL L).map V.int)) := upd_same
        generalize upd (upd G W (.dK (kvR L))) p3 (.lst ((momL L).map V.int)) = G3 at s3 h3 ⊢
        refine ⟨p3, rfl, ⟨_, SqL.of h3⟩, fun D hD => ?_⟩
        have hrS : ∀ r ∈ sortR L, RP z F r := fun r h => hr' r ((sortR_perm L).mem_iff.mp h)
        refine lc_list (K := K) (a := p3) (xs := (momL L).map V.int) (fun i G => Same G3 G ∧ G D = some (.lst (((sortR L).take i).map rv))) ⟨same_up hD, by rw [List.take_zero]; exact upd_same⟩ (fun _ _ _ g => SqL.of (g.1 _ _ h3)) ?_ ?_
        · rintro i y G5 hy ⟨sF, hD'⟩
          rw [momL_sort, List.map_map] at hy
          obtain ⟨r, hr2, ey⟩ := Option.map_eq_some_iff.mp ((List.getElem?_map).symm.trans hy)
          have ey : V.int r.1 = y := ey
          subst ey
          have rL := (sortR_perm L).mem_iff.mp (List.mem_of_getElem? hr2)
          have g := DGet.k (k := Sum.inl r.1) ((s3.trans sF) _ _ hL)
          rw [valV_kvR, find_in ndL rL] at g
          refine ⟨rfl, yesT ⟨_, rfl, _, rfl, W, rv r, rfl, g, _, hD', ?_, sup hD sF, ?_⟩⟩
          · rw [List.length_map, List.length_take]; skip
            exact small1000 (by have := (sortR_perm L).length_eq; omega)
          · rw [upd_same, take_snoc hr2, List.map_append]
            rfl
        · rintro G5 ⟨sF, hD'⟩
          rw [List.length_map, momL_len, ← (sortR_perm L).length_eq, List.take_length] at hD'
          have s5 := s3.trans sF
          refine q D G5 (eF.trans (LamX.ExtN.of s5)) (tF.ext s5) ⟨⟨sortR L, ?_, hD', fun r h => (hrS r h).same s5⟩, ?_, ?_, ?_⟩
          · rw [sort_rd hr', e2]
          · obtain ⟨o, ho⟩ := (hz.ext (eF.trans (LamX.ExtN.of s3))).some
            exact (ne_of_none ho hD).symm
          · refine srtD_up ?_
            rw [← e2, rows_mom hr', e1]
            exact nd
          · rw [(srtD_perm _).length_eq, List.length_map, List.length_map]
            exact lA
end
end Pl

namespace Pl
open L2 PySem PySem.Spec PyProof.Rows
/-! ### what the law hands in that is refused -/
def wordL : List Str := ["past", "deed", "moment", "many"]
def oddE : List PyData := [.none, .bool true, .str "1", .tuple [.int 1], .list [.int 1], .tuple [], .tuple [.int 1, .str "go"], .list [.int 1, .str "strike", .int 2], .tuple [.int 0, .str "strike", .int 1], .tuple [.int 1, .str "strike", .int 10]] ++ (List.range 1004).map fun n : Nat => PyData.int ((n : Int) - 2)
def okE (e : PyData) : Bool := e.canLay0 && decide (e.depth ≤ 10) && decide (e.weight ≤ 1000) && e.showable && decide (e.shown.length ≤ sizeLine) && wordL.all fun w => SeqAt.shaped (.list [.str w, .str e.shown])
theorem oddE_ok : oddE.all okE = true := by decide +kernel
theorem oddE_at {e : PyData} (h : e ∈ oddE) : okL e ∧ Shw e ∧ e.weight ≤ 1000 ∧ ∀ w ∈ wordL, SeqAt.shaped (.list [.str w, .str e.shown]) = true := by
  have := List.all_eq_true.mp oddE_ok e h
  unfold okE at this
  rw [Bool.and_eq_true, Bool.and_eq_true, Bool.and_eq_true, Bool.and_eq_true, Bool.and_eq_true] at this
  obtain ⟨⟨⟨⟨⟨h1, h2⟩, h3⟩, h4⟩, h5⟩, h6⟩ := this
  exact ⟨⟨h1, of_decide_eq_true h2⟩, ⟨h4, of_decide_eq_true h2, of_decide_eq_true h5⟩, of_decide_eq_true h3, fun w hw => List.all_eq_true.mp h6 w hw⟩
theorem int_odd {i : Int} (a : -2 ≤ i) (b : i ≤ 1001) : PyData.int i ∈ oddE := by
  refine List.mem_append_right _ (List.mem_map.mpr ⟨(i + 2).toNat, List.mem_range.mpr (by omega), ?_⟩)
  rw [show (((i + 2).toNat : Nat) : Int) - 2 = i by omega]
end Pl

namespace Pl
open L2 PySem PySem.Spec PyProof.Rows
theorem Fo.word {c : Fo} {w f : Str} {cls : Value} (h : c.is_ w f cls) : w ∈ wordL := by
  rcases h with ⟨rfl, _⟩ | ⟨rfl, _⟩ | ⟨rfl, _⟩ | ⟨rfl, _⟩ <;> simp [wordL]
theorem Fo.past (c : Fo) : c.is_ "past" "told" (.ref c.p) := .inl ⟨rfl, rfl, rfl⟩
theorem Fo.deed (c : Fo) : c.is_ "deed" "told" (.ref c.d) := .inr (.inl ⟨rfl, rfl, rfl⟩)
theorem Fo.moment (c : Fo) : c.is_ "moment" "told" (.ref c.m) := .inr (.inr (.inl ⟨rfl, rfl, rfl⟩))
theorem Fo.many (c : Fo) : c.is_ "many" "most" (.ref c.t) := .inr (.inr (.inr ⟨rfl, rfl, rfl⟩))
/-- C leaves, v in its field f -/
def RaisF (f : Str) (C : Addr) (v : V) (H : Hp) (E : XK) : Prop := ∀ (d : Addr) (H' : Hp), Same H H' → H' d = some (.xd [(f, v)]) → E (.ref C) (some d) H'
theorem caught_at {Tb : TbL} {c : Fo} {C : Addr} {t : XK → TE} {v : V} {e : PyData} {w f : Str} {σ : L2.St} {G : Hp} {Q : VK} (hw : c.is_ w f (.ref C)) (me : e ∈ oddE) (hT : LamX.Tabs Tb G)
    (raise : ∀ (E : XK) (H1 : Hp) (Q' : VK), LamX.ExtN G H1 → RaisF f C v H1 E → t E σ H1 Q') (od : ∀ H1, LamX.ExtN G H1 → ∃ m z, Dv m z H1 false v e)
    (next : ∀ p G', LamX.ExtN G G' → LamX.Tabs Tb G' → G' p = some (outL w e) → Q (.ref p) G') : LamX.tLam Tb (TTr c) t σ G Q := by
  refine ⟨hT, fun H1 eN T1 => raise _ H1 _ eN fun dd H' s' hd => ⟨dd, v, e, w, f, hw, rfl, hd, ⟨?_, (oddE_at me).2.1⟩, fun p hp => ?_⟩⟩
  · obtain ⟨m, z, d⟩ := od H1 eN
    exact ⟨m, z, Dv.to (But.of s') _ _ _ d⟩
  · have sA := s'.trans (same_up (o := outL w e) hp)
    exact next p _ (eN.trans (LamX.ExtN.of sA)) (T1.ext sA) upd_same
theorem out_shaped {c : Fo} {w f : Str} {cls : Value} {e : PyData} (hw : c.is_ w f cls) (me : e ∈ oddE) : SeqAt.shaped (.list [.str w, .str e.shown]) = true := (oddE_at me).2.2.2 w (Fo.word hw)
theorem ne_outs {K : PySem.W.Frag} {c : Fo} {w f : Str} {cls : Value} {e : PyData} {G : Hp} {p p2 : Addr} {Q : VK} (hw : c.is_ w f cls) (me : e ∈ oddE) (hp : G p = some (outL w e)) (hp2 : G p2 = some (outL w e)) (q : Q (.bl false) G) : rNeD K (.ref p) (.ref p2) G Q := by
  refine ⟨_, _, .lst (SqL.of hp) (.cons (.str _) (.cons (.str _) .nil)), .lst (SqL.of hp2) (.cons (.str _) (.cons (.str _) .nil)), out_shaped hw me, out_shaped hw me, ?_⟩
  rw [eqv_list (out_shaped hw me)]
  exact q
theorem eq_outs {K : PySem.W.Frag} {c : Fo} {w f : Str} {cls : Value} {e : PyData} {G : Hp} {p p2 : Addr} {Q : VK} (hw : c.is_ w f cls) (me : e ∈ oddE) (hp : G p = some (outL w e)) (hp2 : G p2 = some (outL w e)) (q : Q (.bl true) G) : rEqD K (.ref p) (.ref p2) G Q := by
  refine ⟨_, _, .lst (SqL.of hp) (.cons (.str _) (.cons (.str _) .nil)), .lst (SqL.of hp2) (.cons (.str _) (.cons (.str _) .nil)), out_shaped hw me, out_shaped hw me, ?_⟩
  rw [eqv_list (out_shaped hw me)]
  exact q
/-- caught(..) != [w, ..] -/
theorem ne_caught {K : PySem.W.Frag} {Tb : TbL} {c : Fo} {C : Addr} {t : XK → TE} {tR : TE} {v : V} {e : PyData} {w f : Str} {σ : L2.St} {G : Hp} {Q : VK} (hw : c.is_ w f (.ref C)) (me : e ∈ oddE) (hT : LamX.Tabs Tb G)
    (raise : ∀ (E : XK) (H1 : Hp) (Q' : VK), LamX.ExtN G H1 → RaisF f C v H1 E → t E σ H1 Q') (od : ∀ H1, LamX.ExtN G H1 → ∃ m z, Dv m z H1 false v e)
    (right : ∀ (H1 : Hp) (Q' : VK), LamX.ExtN G H1 → (∀ p2 G2, Same H1 G2 → G2 p2 = some (outL w e) → Q' (.ref p2) G2) → tR σ H1 Q')
    (next : ∀ G', LamX.ExtN G G' → LamX.Tabs Tb G' → Q (.bl false) G') : tOp (rNeD K) (LamX.tLam Tb (TTr c) t) tR σ G Q :=
  caught_at hw me hT raise od fun p G1 e1 T1 hp => right G1 _ e1 fun p2 G2 s2 h2 => ne_outs hw me (s2 _ _ hp) h2 (next G2 (e1.trans (LamX.ExtN.of s2)) (T1.ext s2))
theorem eq_caught {K : PySem.W.Frag} {Tb : TbL} {c : Fo} {C : Addr} {t : XK → TE} {tR : TE} {v : V} {e : PyData} {w f : Str} {σ : L2.St} {G : Hp} {Q : VK} (hw : c.is_ w f (.ref C)) (me : e ∈ oddE) (hT : LamX.Tabs Tb G)
    (raise : ∀ (E : XK) (H1 : Hp) (Q' : VK), LamX.ExtN G H1 → RaisF f C v H1 E → t E σ H1 Q') (od : ∀ H1, LamX.ExtN G H1 → ∃ m z, Dv m z H1 false v e)
    (right : ∀ (H1 : Hp) (Q' : VK), LamX.ExtN G H1 → (∀ p2 G2, Same H1 G2 → G2 p2 = some (outL w e) → Q' (.ref p2) G2) → tR σ H1 Q')
    (next : ∀ G', LamX.ExtN G G' → LamX.Tabs Tb G' → Q (.bl true) G') : tOp (rEqD K) (LamX.tLam Tb (TTr c) t) tR σ G Q :=
  caught_at hw me hT raise od fun p G1 e1 T1 hp => right G1 _ e1 fun p2 G2 s2 h2 => eq_outs hw me (s2 _ _ hp) h2 (next G2 (e1.trans (LamX.ExtN.of s2)) (T1.ext s2))
/-- [w, repr(what is read)] -/
theorem due_read {w : Str} {e : PyData} {σ : L2.St} {H1 : Hp} {ta : TE} {Q' : VK} (me : e ∈ oddE) (h : ∀ k : VK, (∀ v G, Same H1 G → (∃ m z, Dv m z G false v e) → k v G) → ta σ H1 k) (q : ∀ p2 G2, Same H1 G2 → G2 p2 = some (outL w e) → Q' (.ref p2) G2) :
    tLst (tCons (tC (V.str w)) (tCons (tCB rRepr (tCons ta tNil)) tNil)) σ H1 Q' :=
  h _ fun v G s ⟨m, z, d⟩ => ⟨m, z, v, e, rfl, d, (oddE_at me).2.1, by show 2 ≤ sizeLine; decide, fun p2 hp2 => q p2 _ (s.trans (same_up hp2)) upd_same⟩
/-! ### pasts changed, by their deeds -/
section
variable {K : PySem.W.Frag} {C CD CM CP CT z p : Addr} {H : Hp} {Q : VK} {E : XK} {ds : List PyData}
theorem pv_get_bad (h : PV C z H p ds) {v : V} {d : PyData} {m k : Bool} {z' : Addr} (hd : Dv m z' H k v d) (hw : d.weight ≤ 1000) (no : inM ds d = false) (r : Rais CM v H E) : spGet C CM [.ref p, v] H Q E := by
  obtain ⟨L, a, e⟩ := h
  refine ⟨p, z, z', m, k, v, d, L, rfl, a, hd, hw, fun _ => r, fun r' hr' e' => ?_⟩
  subst e'
  rw [← PV.inP a e] at no
  exact absurd (decide_eq_true (List.mem_map.mpr ⟨r', hr', rfl⟩)) (by rw [show decide (r'.1 ∈ L.map (·.1)) = false from no]; decide)
theorem pv_wo_bad (h : PV C z H p ds) (hz : ∃ ys, H z = some (.lst ys)) {v : V} {d : PyData} {m k : Bool} {z' : Addr} (hd : Dv m z' H k v d) (hw : d.weight ≤ 1000) (no : inM ds d = false) (r : Rais CM v H E) : spWo C CM [.ref p, v] H Q E := by
  obtain ⟨L, a, e⟩ := h
  refine ⟨p, z, z', m, k, v, d, L, rfl, a, hz, hd, hw, fun _ => r, fun r' hr' e' => ?_⟩
  subst e'
  rw [← PV.inP a e] at no
  exact absurd (decide_eq_true (List.mem_map.mpr ⟨r', hr', rfl⟩)) (by rw [show decide (r'.1 ∈ L.map (·.1)) = false from no]; decide)
theorem pv_of {x : Addr} {M : List RowD} (a : PastAt C z H x M) {es : List PyData} (e : M.map rd = es) : PV C z H x (srtD es) := by
  obtain ⟨dx, pm, pd, h1, h2, h3, n1, n2, n3, hr, nd, l⟩ := id a
  exact ⟨M, a, by rw [sort_rd hr, e]⟩
def outD (ds : List PyData) (m : Int) : List PyData := ds.filter fun d => decide (momD d ≠ m)
theorem outD_up {ds : List PyData} (h : UpD ds) (m : Int) : UpD (outD ds m) := h.sublist List.filter_sublist
theorem PV.up (h : PV C z H p ds) : UpD ds := by
  obtain ⟨L, a, e⟩ := h
  exact e ▸ a.up
theorem pv_wo (h : PV C z H p ds) (hz : ∃ ys, H z = some (.lst ys)) {d : PyData} (hd : d ∈ ds) (q : ∀ x G, Same H G → H x = none → PV C z G x (outD ds (momD d)) → Q (.ref x) G) : spWo C CM [.ref p, .int (momD d)] H Q E := by
  have up := h.up
  have isd := h.deed hd
  obtain ⟨L, a, e⟩ := h
  obtain ⟨dx, pm, pd, h1, h2, h3, n1, n2, n3, hr, nd, l⟩ := id a
  refine ⟨p, z, z, false, false, .int (momD d), .int (momD d), L, rfl, a, hz, .int _, mom_w isd, fun no => ?_, fun r' hr' e' x M G s hx pm' e1 e2 => ?_⟩
  · rw [PV.inP a e] at no
    exact absurd (decide_eq_true (List.mem_map.mpr ⟨d, hd, rfl⟩)) (by rw [show decide (momD d ∈ ds.map momD) = false from no]; decide)
  · refine q x G s hx ?_
    have ed : (outR L r'.1).map rd = outD ds (momD d) := by
      have e' : momD d = r'.1 := PyData.int.inj e'
      rw [← e', ← e]
      unfold outR outD
      rw [List.filter_map]
      congr 1
      refine List.filter_congr fun r hr2 => ?_
      show decide (r.1 ≠ momD d) = decide (momD (rd r) ≠ momD d)
      rw [(hr r ((sortR_perm L).mem_iff.mp hr2)).2.2.1]
    rw [ed] at e2
    have := pv_of pm' e2
    rw [srtD_of (outD_up up _)] at this
    exact this
theorem pv_with (h : PV C z H p ds) (hz : ∃ ys, H z = some (.lst ys)) {v : V} {d : PyData} (hd : Eld z H (v, d)) (no : momD d ∉ ds.map momD) (l : ds.length < 60) (q : ∀ x G, Same H G → H x = none → PV C z G x (srtD (ds ++ [inOrd d])) → Q (.ref x) G) : spWith C CD CM CT [.ref p, v] H Q E := by
  obtain ⟨L, a, e⟩ := h
  have isd : isDeed d = true := hd.2.1
  have ll : L.length = ds.length := by rw [← e, List.length_map, (sortR_perm L).length_eq]
  refine ⟨p, z, v, d, L, rfl, a, hd.el, hz, (fun no => by rw [isd] at no; cases no), fun _ i => absurd ((PV.mem a e _).mp i) no, fun _ _ => ⟨fun f => by omega, fun _ x M G s hx pm' e1 e2 => q x G s hx ?_⟩⟩
  rw [e] at e2
  exact pv_of pm' e2
theorem pv_with_bad (h : PV C z H p ds) (hz : ∃ ys, H z = some (.lst ys)) {v : V} {d : PyData} (hd : Dv false z H false v d) (hw : d.weight ≤ 1000) (no : isDeed d = false) (r : Rais CD v H E) : spWith C CD CM CT [.ref p, v] H Q E := by
  obtain ⟨L, a, e⟩ := h
  exact ⟨p, z, v, d, L, rfl, a, ⟨hd, hw, fun y => by rw [no] at y; cases y⟩, hz, fun _ => r, (fun y => by rw [no] at y; cases y), fun y => by rw [no] at y; cases y⟩
theorem pv_with_twice (h : PV C z H p ds) (hz : ∃ ys, H z = some (.lst ys)) {v : V} {d : PyData} (hd : Eld z H (v, d)) (tw : momD d ∈ ds.map momD) (r : Rais CM (.int (momD d)) H E) : spWith C CD CM CT [.ref p, v] H Q E := by
  obtain ⟨L, a, e⟩ := h
  have isd : isDeed d = true := hd.2.1
  exact ⟨p, z, v, d, L, rfl, a, hd.el, hz, (fun no => by rw [isd] at no; cases no), fun _ _ => r, fun _ n => absurd ((PV.mem a e _).mpr tw) n⟩
theorem pv_with_full (h : PV C z H p ds) (hz : ∃ ys, H z = some (.lst ys)) {v : V} {d : PyData} (hd : Eld z H (v, d)) (no : momD d ∉ ds.map momD) (l : ds.length = 60) (r : RaisO CT (.int 60) H E) : spWith C CD CM CT [.ref p, v] H Q E := by
  obtain ⟨L, a, e⟩ := h
  have isd : isDeed d = true := hd.2.1
  have ll : L.length = ds.length := by rw [← e, List.length_map, (sortR_perm L).length_eq]
  exact ⟨p, z, v, d, L, rfl, a, hd.el, hz, (fun no => by rw [isd] at no; cases no), fun _ i => absurd ((PV.mem a e _).mp i) no, fun _ _ => ⟨fun _ => r, fun f => by omega⟩⟩
/-- a past made of right deeds -/
theorem arg_good {a : Addr} {A : List (V × PyData)} (hA : (∀ G, Same H G → TyX K G (.ref a) (.type "list") ∧ SqL K G a (A.map (·.1))) ∨ ∀ G, Same H G → TyX K G (.ref a) (.type "tuple") ∧ SqT K G a (A.map (·.1))) (hz : ∃ ys, H z = some (.lst ys)) (l : A.length ≤ 60) (hE : ∀ q ∈ A, Eld z H q) (nd : ((A.map (·.2)).map momD).Nodup)
    (q : ∀ x G, Same H G → H x = none → PV C z G x (srtD ((A.map (·.2)).map inOrd)) → Q (.ref x) G) : PastArg K C CP CT (.ref a) H Q E := by
  have gg := good_rows (ds := A.map (·.2)) (seen := []) (i := 0) (fun d hd => by
    obtain ⟨q, hq, rfl⟩ := List.mem_map.mp hd; skip
    exact (hE q hq).2.1) (by rw [List.nil_append]; exact nd)
  refine .inr ⟨a, z, A, rfl, hA, hz, by omega, fun q hq => (hE q hq).el, fun i e => ?_, fun _ => ⟨fun f => by omega, fun _ x L G s hx pa e1 e2 => q x G s hx (pv_of pa e2)⟩⟩
  rw [gg] at e
  cases e
end
end Pl

namespace Pl
open L2 PySem PySem.Spec PyProof.Rows
abbrev sNone : Stmt := top 49
abbrev lamN : Str := (envOfC "_law_none_there" (defScope sNone) 0 0 (.ref 0)).qual ++ "<lambda>"
abbrev nNt : List Str := ["_law_source", "_law_past", "_law_due", "_law_moments", "_law_some", "_law_none", "_law_deed_here", "_law_moment", "_law_value"]
/-- the class Past, as the law changes it -/
structure PsX (P : Program) (w : World) (K : PySem.W.Frag) (mg : Str → Option Value) (base : Heap) (C CD CM CP CT : Addr) : Prop where
  d : PsD P w K mg base C CM
  wi : MetC P w K mg base (L2.CX P w) C "with_deed" 12 ["self", "deed"] (spWith C CD CM CT)
  wo : MetC P w K mg base (L2.CX P w) C "without" 12 ["self", "moment"] (spWo C CM)
  eq : MetC P w K mg base CX0 C "__eq__" 1 ["self", "other"] (spEqP K C)
  make : MkP P w K mg base C CP CT
  ic : C8.InsC K C
  ne : PySem.W.findIn K (.ref C) "__ne__" = some (some (.builtin "object.__ne__"))
  nf : PySem.W.notFirst K C (.ref C) = true
  nl : PySem.W.notFirst K C (.type "list") = true
  kl : PySem.W.kitOne K (.type "list") (.ref C) = some false
theorem shaped_ok {d : PyData} (h : okL d) : SeqAt.shaped d = true := by
  unfold SeqAt.shaped
  rw [h.1, Bool.true_and]
  exact decide_eq_true (Nat.le_trans h.2 (by decide))
theorem any_in {ds : List PyData} {d : PyData} (h : (((ds.map momD).map PyData.int).any fun z => PyData.eqv z d) = false) : inM ds d = false := by
  cases d with
  | int i =>
    refine decide_eq_false fun hm => ?_
    have := List.any_eq_false.mp h (.int i) (List.mem_map.mpr ⟨i, hm, rfl⟩)
    exact this (by simp [PyData.eqv])
  | _ => rfl
/-- one of those, at its place -/
def Ods (z : Addr) (H : Hp) (q : V × PyData) : Prop := Dv false z H false q.1 q.2 ∧ q.2 ∈ oddE
theorem Ods.bn {z : Addr} {H G : Hp} {q : V × PyData} (h : Ods z H q) (b : BN z H G) : Ods z G q := ⟨Dv.bn b _ _ _ h.1, h.2⟩
def spNone (Tb : TbL) (C : Addr) : Sp := fun vs H Q _ => ∃ (z p u : Addr) (ds : List PyData), vs = [.ref z, .ref p, .ref u] ∧ Src z H ∧ PV C z H p ds ∧ DueAt z H u ds ∧ LamX.Tabs Tb H ∧ ∀ G, BN z H G → Src z G → LamX.Tabs Tb G → Q (.bl true) G
theorem BN.same {z : Addr} {H G F : Hp} (a : BN z H G) (s : Same G F) : BN z H F := a.trans (BN.of s)
theorem test_at {t : TE} {σ : L2.St} {H : Hp} {Q : Bool → Hp → Prop} (h : t σ H fun x H' => ∃ k, x = .bl k ∧ Q k H') : tTest t σ H Q := h
theorem next_at {D : Ends} {σ : L2.St} {H : Hp} (h : D.nx σ H) : tNext D σ H := h
theorem seq_ifN {c : TT} {a u : TS} {D : Ends} {σ : L2.St} {H : Hp} (h : c σ H fun k H1 => if k = true then a { D with nx := u D } σ H1 else u D σ H1) : tSeq (tIfS c a tNext) u D σ H := h
theorem ret_at {t : TE} {σ : L2.St} {H : Hp} {D : Ends} (h : t σ H D.rt) : tRet t D σ H := h
theorem ne_new {z p : Addr} {H : Hp} (hz : Src z H) (hp : H p = none) : p ≠ z := by
  obtain ⟨o, h⟩ := hz.some
  exact (ne_of_none h hp).symm
section
variable {P : Program} {w : World} {K : PySem.W.Frag} {mg : Str → Option Value} {base : Heap} {C CP CT : Addr} {c : Fo} {cd Pt : Addr} {Tb : TbL}
theorem scNone : FnScope nNt ["_law_source", "_law_past", "_law_due"] (defScope sNone) := ⟨rfl, rfl, rfl, by decide +kernel, rfl, by decide +kernel, by decide +kernel⟩
theorem ok_none {f gT : Addr} {fd fdT : FuncData} (F : FunC K "_law_none_there" "_law_none_there" sNone f cd fd) (T : Cst K mg) (T2 : Cs2 mg) (S : Tri K mg c) (TB : LamX.TabB base mg cd Pt) (hmT : (Pt, lamN) ∈ Tb) (huT : ∀ p ∈ Tb, p.1 = Pt → p.2 = lamN) (FT : Fun K "_law_caught" "_law_caught" sCaught gT fdT) (mT : mg "_law_caught" = some (.ref gT)) (bT : Binds K fdT ["_law_call"] [])
    (D1 : DOne P w K mg base) (X : PsX P w K mg base C c.d c.m CP CT) : FnG P w K mg base 16 f fd ["_law_source", "_law_past", "_law_due"] (spNone Tb C) := by
  obtain ⟨oc, od, kV, doc, pm, an, cdv, ct, osl, rfl, lT, hcT⟩ := FT.ex
  have kT := FT.kp
  obtain ⟨gO, fdO, GO, mO, kO, bO⟩ := D1.ex
  obtain ⟨fW, fdW, GW, meW, bW, _⟩ := X.wo.ex
  have pc := X.d.pc.cls
  refine okC F scNone (fun vs H Q E h => ?_) (fun A outer s H vs Q E hgd hr h => ?_)
  · obtain ⟨z, p, u, ds, rfl, _⟩ := h
    rfl
  · obtain ⟨z, p, u, ds, rfl, hz, hp, hd, hT, q⟩ := h
    have hu : (A.deeper (envOfC "_law_none_there" (defScope sNone) s.heap.objs.size f (.ref cd))).units + 65 < cLine := by
      have := hr.un
      omega
    have hu64 : (A.deeper (envOfC "_law_none_there" (defScope sNone) s.heap.objs.size f (.ref cd))).units + 64 < cLine := by omega
    have hun : (A.deeper (envOfC "_law_none_there" (defScope sNone) s.heap.objs.size f (.ref cd))).units + 128 < cLine := by
      have := hr.un
      omega
    refine ⟨_, pss_cons (ps_set (i := 3) scNone.nd rfl (Or.inr rfl) (pe_lc (own := [("_law_deed_here", 6)]) (g := gName 6) (tt := tYes) rfl scNone.nd (pi_list (pv 2)) (blkOk_by (own := [("_law_deed_here", 6)]) (N := nNt) (sc := defScope sNone) (by decide +kernel))
        (fun _ _ _ _ _ => pg_name (i := 6) scNone.nd rfl (Or.inl rfl)) (fun _ _ _ _ _ => pts_nil) (fun _ _ _ _ _ => pe_ix (show IxR _ (rIxT K) from ix_tup) (pv 6) pe_int (fun _ _ => rfl))))
      (pss_cons (ps_set (i := 4) scNone.nd rfl (Or.inl rfl) (pe_op op_cat (pe_lst (pa_cons pe_non (pa_cons pe_int (pa_cons pe_int (pa_cons (pe_un un_neg pe_int) (pa_cons pe_str (pa_cons (pe_tup (pa_cons pe_int pa_nil)) (pa_cons (pe_lst (pa_cons pe_int pa_nil)) (pa_cons pe_int pa_nil)))))))))
        (pe_lc (own := [("_law_moment", 7)]) (g := gName 7) (tt := tYes) rfl scNone.nd (pi_list (pv 3)) (blkOk_by (own := [("_law_moment", 7)]) (N := nNt) (sc := defScope sNone) (by decide +kernel))
        (fun _ _ _ _ _ => pg_name (i := 7) scNone.nd rfl (Or.inl rfl)) (fun _ _ _ _ _ => pts_nil) (fun _ _ _ _ _ => pe_op op_add (pv 7) pe_int))))
      (pss_cons (ps_set (i := 5) scNone.nd rfl (Or.inr rfl) (pe_call GO (hr.mono (by decide)) (by rfl) mO kO bO .nil pass0 (pa_cons (pv 0) (pa_cons (pe_op op_cat (pe_lst (pa_cons pe_bl pa_nil))
        (pe_lc (own := [("_law_value", 8)]) (g := gName 8) (tt := _) rfl scNone.nd (pi_list (pv 4)) (blkOk_by (own := [("_law_value", 8)]) (N := nNt) (sc := defScope sNone) (by decide +kernel))
        (fun _ _ _ _ _ => pg_name (i := 8) scNone.nd rfl (Or.inl rfl)) (fun _ _ _ _ _ => pts_one (pt_cmpR (show OpR _ (compareOp .NotIn) (rNotInD K) from op_notInD hu) (pv 8) (pv 3) (by rfl))) (fun _ _ _ _ _ => pv 8))) pa_nil))))
      (pss_cons (ps_if (pt_cmpR (op_inO (X.d.ct.dun (E := E0) pass0) (hr.mono (by decide))) (pv 5) (pv 1) (by rfl)) (pss_one (ps_ret pe_bl)) pss_nil)
      (pss_cons (ps_if (pt_cmpR (op_neD hu64) (LamX.pe_lamcall (x := "_law_caught") (a := "_law_call") (T := Tb) (TT := TTr c) (k := 12) (by rfl) mT kT lT hcT bT scTried rfl (Or.inl rfl) (tried_gives hgd hun T2 S) TB rfl hmT huT (hr.mono (by decide)) (show LamX.LamS (defScope sNone) _ from LamX.lamS_by (by decide +kernel)) rfl (fun _ _ _ _ _ => rfl)
          (fun A outer s H E f c' hr2 => pe_ixO (X.d.gi.dun (E := E) (passes_call (takes_of rfl rfl rfl rfl) fun _ _ _ _ h => h)) X.d.gi.fnI (hr2.mono (by decide)) (pv 1) (pv 5)))
          (pe_lst (pa_cons pe_str (pa_cons (pe_callB (call_repr hgd hu64) (by rfl) T2.rpr (by decide +kernel) (pa_cons (pv 5) pa_nil)) pa_nil))) (nomark _)) (pss_one (ps_ret pe_bl)) pss_nil)
      (pss_one (ps_ret (pe_cmpR (op_eqD hu64) (LamX.pe_lamcall (x := "_law_caught") (a := "_law_call") (T := Tb) (TT := TTr c) (k := 12) (by rfl) mT kT lT hcT bT scTried rfl (Or.inl rfl) (tried_gives hgd hun T2 S) TB rfl hmT huT (hr.mono (by decide)) (show LamX.LamS (defScope sNone) _ from LamX.lamS_by (by decide +kernel)) rfl (fun _ _ _ _ _ => rfl)
          (fun A outer s H E f c' hr2 => pe_meth (pv 1) pc meW GW (hr2.mono (by decide)) bW .nil (passes_call (takes_of rfl rfl rfl rfl) fun _ _ _ _ h => h) (pa_cons (pv 5) pa_nil)))
          (pe_lst (pa_cons pe_str (pa_cons (pe_callB (call_repr hgd hu64) (by rfl) T2.rpr (by decide +kernel) (pa_cons (pv 5) pa_nil)) pa_nil))) (nomark _)))))))), ?_⟩
    refine seq_at (lc_moms (i := 2) (j := 6) (σ := [some (.ref z), some (.ref p), some (.ref u), none, none, none, none, none, none]) hd rfl (fun _ => rfl) (fun _ => rfl) fun mL G1 s1 nm hm => ?_)
    have zm := ne_new hz nm
    have ml : (ds.map momD).length ≤ 60 := by rw [List.length_map]; exact hd.len
    have bnd : ∀ m ∈ ds.map momD, 1 ≤ m ∧ m ≤ 999 := fun m h => by
      obtain ⟨d, h1, rfl⟩ := List.mem_map.mp h
      exact mom_in (hp.deed h1)
    refine seq_at ?_
    refine ⟨_, rfl, by show 1 ≤ sizeLine; decide, fun a1 na1 => ⟨by show 1 ≤ sizeLine; decide, fun a2 na2 => ⟨by show 8 ≤ sizeLine; decide, fun a3 na3 => ?_⟩⟩⟩
    have sa1 := same_up (o := .tup [V.int 1]) na1
    have f1 : upd G1 a1 (.tup [V.int 1]) a1 = _ := upd_same
    have z1 : a1 ≠ z := ne_new (hz.same s1) na1
    have z2 : a2 ≠ z := ne_new ((hz.same s1).same sa1) na2
    have sa2 := same_up (o := .lst [V.int 1]) na2
    have f2 : upd (upd G1 a1 (.tup [V.int 1])) a2 (.lst [V.int 1]) a2 = _ := upd_same
    have sa3 := same_up (o := .lst [V.non, .int 0, .int 1000, .int (-1), .str "1", .ref a1, .ref a2, .int 500]) na3
    have f3 : upd (upd (upd G1 a1 (.tup [V.int 1])) a2 (.lst [V.int 1])) a3 (.lst [V.non, .int 0, .int 1000, .int (-1), .str "1", .ref a1, .ref a2, .int 500]) a3 = some (.lst [V.non, .int 0, .int 1000, .int (-1), .str "1", .ref a1, .ref a2, .int 500]) := upd_same
    have f1 := (sa2.trans sa3) _ _ f1
    have f2 := sa3 _ _ f2
    have s3 := (sa1.trans sa2).trans sa3
    have na1' := na1
    generalize hG3 : upd (upd (upd G1 a1 (.tup [V.int 1])) a2 (.lst [V.int 1])) a3 (.lst [V.non, .int 0, .int 1000, .int (-1), .str "1", .ref a1, .ref a2, .int 500]) = G3 at s3 f1 f2 f3 ⊢
    have A0 : ∀ q ∈ [((V.non : V), PyData.none), (.int 0, .int 0), (.int 1000, .int 1000), (.int (-1), .int (-1)), (.str "1", .str "1"), (.ref a1, .tuple [.int 1]), (.ref a2, .list [.int 1]), (.int 500, .int 500)], Ods z G3 q := by
      intro q hq
      simp only [List.mem_cons, List.not_mem_nil, or_false] at hq
      rcases hq with rfl | rfl | rfl | rfl | rfl | rfl | rfl | rfl
      · exact ⟨.non, by simp [oddE]⟩
      · exact ⟨.int _, int_odd (by decide) (by decide)⟩
      · exact ⟨.int _, int_odd (by decide) (by decide)⟩
      · exact ⟨.int _, int_odd (by decide) (by decide)⟩
      · exact ⟨.str _, by simp [oddE]⟩
      · exact ⟨.tup z1 (.any f1) (.cons (.int _) .nil), by simp [oddE]⟩
      · exact ⟨.lst rfl z2 f2 (.cons (.int _) .nil), by simp [oddE]⟩
      · exact ⟨.int _, int_odd (by decide) (by decide)⟩
    refine ⟨_, rfl, mL, rfl, ⟨_, SqL.of (s3 _ _ hm)⟩, fun q4 nq4 => ?_⟩
    refine lc_list (K := K) (a := mL) (xs := (ds.map momD).map V.int) (fun i F => Same G3 F ∧ F q4 = some (.lst (((ds.map momD).take i).map fun m => V.int (m + 1)))) ⟨same_up nq4, by rw [List.take_zero]; exact upd_same⟩ (fun _ _ _ g => SqL.of ((s3.trans g.1) _ _ hm)) ?_ ?_
    · rintro i y F hy ⟨sF, h4⟩
      obtain ⟨m, hm2, ey⟩ := Option.map_eq_some_iff.mp ((List.getElem?_map).symm.trans hy)
      subst ey
      refine ⟨rfl, yesT ⟨_, rfl, _, _, rfl, rfl, _, h4, ?_, sup nq4 sF, ?_⟩⟩
      · rw [List.length_map, List.length_take]; skip
        exact small1000 (by omega)
      · rw [upd_same, take_snoc hm2, List.map_append]
        rfl
    rintro G4 ⟨s4, h4⟩
    rw [List.length_map, List.take_length] at h4
    refine ⟨a3, q4, _, _, rfl, rfl, s4 _ _ f3, h4, ?_, fun p5 np5 => ?_⟩
    · show 8 + _ ≤ sizeLine
      rw [List.length_map]
      exact sz1000 (by omega)
    obtain ⟨A1, eA1, hA1⟩ : ∃ A1 : List (V × PyData), A1.map (·.1) = [V.non, .int 0, .int 1000, .int (-1), .str "1", .ref a1, .ref a2, .int 500] ++ (ds.map momD).map (fun m => V.int (m + 1)) ∧ ∀ q ∈ A1, Ods z G4 q := by
      refine ⟨[((V.non : V), PyData.none), (.int 0, .int 0), (.int 1000, .int 1000), (.int (-1), .int (-1)), (.str "1", .str "1"), (.ref a1, .tuple [.int 1]), (.ref a2, .list [.int 1]), (.int 500, .int 500)] ++ (ds.map momD).map fun m => (V.int (m + 1), PyData.int (m + 1)), ?_, fun q hq => ?_⟩
      · rw [List.map_append, List.map_map]
        rfl
      · rcases List.mem_append.mp hq with h | h
        · exact (A0 q h).bn (BN.of s4)
        · obtain ⟨m, h1, rfl⟩ := List.mem_map.mp h
          have := bnd m h1
          exact ⟨.int _, int_odd (by omega) (by omega)⟩
    have lA1 : A1.length ≤ 68 := by
      have := congrArg List.length eA1
      rw [List.length_map, List.length_append, List.length_map] at this
      have : A1.length = 8 + (ds.map momD).length := this
      omega
    rw [← eA1]
    have s5 := same_up (o := .lst (A1.map (·.1))) np5
    have h5 : upd G4 p5 (.lst (A1.map (·.1))) p5 = some (.lst (A1.map (·.1))) := upd_same
    generalize upd G4 p5 (.lst (A1.map (·.1))) = G5 at s5 h5 ⊢
    have s05 := s1.trans ((s3.trans s4).trans s5)
    have m5 := ((s3.trans s4).trans s5) _ _ hm
    have hA5 : ∀ q ∈ A1, Ods z G5 q := fun q hq => (hA1 q hq).bn (BN.of s5)
    refine seq_at ?_
    refine ⟨_, rfl, by show 1 ≤ sizeLine; decide, fun a6 na6 => ⟨_, rfl, p5, rfl, ⟨_, SqL.of (same_up na6 _ _ h5)⟩, fun q7 nq7 => ?_⟩⟩
    have s6 := same_up (o := .lst [V.bl true]) na6
    have h6 : upd G5 a6 (.lst [V.bl true]) a6 = some (.lst [V.bl true]) := upd_same
    generalize upd G5 a6 (.lst [V.bl true]) = G6 at s6 h6 nq7 ⊢
    refine lc_list (K := K) (a := p5) (xs := A1.map (·.1)) (fun i F => Same G6 F ∧ ∃ B : List (V × PyData), F q7 = some (.lst (B.map (·.1))) ∧ B.length ≤ i ∧ ∀ q ∈ B, q ∈ A1 ∧ inM ds q.2 = false) ⟨same_up nq7, [], upd_same, Nat.le_refl _, fun q h => by cases h⟩ (fun _ _ _ g => SqL.of ((s6.trans g.1) _ _ h5)) ?_ ?_
    · rintro i y F hy ⟨sF, B, hB, lB, mB⟩
      obtain ⟨q1, hq1, rfl⟩ := fst_get hy
      have mq := List.mem_of_getElem? hq1
      have od := (hA5 q1 mq).bn (BN.of (s6.trans sF))
      have li : i < A1.length := (List.getElem?_eq_some_iff.mp hq1).1
      refine ⟨rfl, _, rfl, _, rfl, q1.2, _, Dv.dp _ _ _ od.1, .lst (SqL.of ((s6.trans sF) _ _ m5)) (ints_dp _), shaped_ok (oddE_at od.2).1, ints_shaped (fun i hi => by have := bnd i hi; omega), _, rfl, ?_⟩
      refine ite2 (fun e => ?_) fun e => ?_
      · have e : (((ds.map momD).map PyData.int).any fun z => PyData.eqv z q1.2) = false := by simpa using e
        refine ⟨_, rfl, _, hB, ?_, sup nq7 sF, B ++ [q1], ?_, ?_, fun q hq => ?_⟩
        · rw [List.length_map]
          exact small1000 (by omega)
        · rw [upd_same, List.map_append]
          rfl
        · rw [List.length_append, List.length_singleton]; skip
          omega
        · rcases List.mem_append.mp hq with h | h
          · exact mB q h
          · rw [List.mem_singleton.mp h]
            exact ⟨mq, any_in e⟩
      · exact ⟨sF, B, hB, by omega, mB⟩
    rintro G7 ⟨s7, B, hB, lB, mB⟩
    rw [List.length_map] at lB
    refine ⟨a6, q7, _, _, rfl, rfl, s7 _ _ h6, hB, ?_, fun p8 np8 => ?_⟩
    · show 1 + _ ≤ sizeLine
      rw [List.length_map]
      exact sz1000 (by omega)
    have s8 := same_up (o := .lst ([V.bl true] ++ B.map (·.1))) np8
    have h8 : upd G7 p8 (.lst ([V.bl true] ++ B.map (·.1))) p8 = some (.lst ([V.bl true] ++ B.map (·.1))) := upd_same
    have z8 : p8 ≠ z := ne_new ((hz.same s05).same (s6.trans s7)) np8
    generalize upd G7 p8 (.lst ([V.bl true] ++ B.map (·.1))) = G8 at s8 h8 ⊢
    have s58 := (s6.trans s7).trans s8
    have s08 := s05.trans s58
    refine ⟨z, p8, _, rfl, hz.same s08, z8, h8, by simp, ?_, fun i v G9 hi b9 z9 => ?_⟩
    · rw [List.length_append, List.length_map, List.length_singleton]
      omega
    obtain ⟨e, od, no⟩ : ∃ e, Ods z G9 (v, e) ∧ inM ds e = false := by
      have hm9 := List.mem_of_getElem? hi
      rcases List.mem_cons.mp hm9 with rfl | h
      · exact ⟨.bool true, ⟨.bl _, by simp [oddE]⟩, rfl⟩
      · obtain ⟨q1, hq1, rfl⟩ := List.mem_map.mp h
        exact ⟨q1.2, (hA5 q1 (mB q1 hq1).1).bn ((BN.of s58).trans (BN.but b9)), (mB q1 hq1).2⟩
    have b09 : BN z H G9 := (BN.of s08).trans (BN.but b9)
    have p9 := hp.bn b09
    have t9 : LamX.Tabs Tb G9 := tabs_but b9 (hz.same s08) (hT.ext s08)
    obtain ⟨oE, shE, wE, _⟩ := oddE_at od.2
    obtain ⟨dx, fs, hi9, _, _, _, lwo⟩ := id p9.ins
    refine seq_ifN ⟨_, rfl, _, rfl, p, dx, fs, rfl, hi9, pv_cont p9 od.1 wE fun G10 s10 => ⟨_, rfl, _, rfl, ?_⟩⟩
    rw [no]
    refine iteF ?_
    have od10 := od.bn (BN.of s10)
    have p10 := p9.same s10
    have z10 := z9.same s10
    refine seq_ifN (test_at ?_)
    refine ne_caught (v := v) (e := e) c.moment od.2 (t9.ext s10) (fun E1 H1 Q1 x1 r => ⟨_, rfl, _, rfl, p, dx, fs, rfl, x1 _ _ (s10 _ _ hi9) (fun _ q => nomatch q), pv_get_bad (p10.bn (BN.ext x1)) (od10.bn (BN.ext x1)).1 wE no r⟩)
      (fun H1 x1 => ⟨false, z, (od10.bn (BN.ext x1)).1⟩) (fun H1 Q1 x1 h => due_read od.2 (fun k hk => ⟨_, rfl, hk v H1 (Same.refl _) ⟨false, z, (od10.bn (BN.ext x1)).1⟩⟩) h) fun G11 x11 t11 => ⟨_, rfl, iteF ?_⟩
    have od11 := od10.bn (BN.ext x11)
    have p11 := p10.bn (BN.ext x11)
    have z11 := z10.ext x11
    have hi11 := x11 _ _ (s10 _ _ hi9) (fun _ q => nomatch q)
    refine ret_at ?_
    refine eq_caught (v := v) (e := e) c.moment od.2 t11 (fun E1 H1 Q1 x1 r => ⟨_, rfl, p, dx, fs, rfl, x1 _ _ hi11 (fun _ q => nomatch q), lwo, _, rfl, pv_wo_bad (p11.bn (BN.ext x1)) (src_lst (z11.ext x1)) (od11.bn (BN.ext x1)).1 wE no r⟩)
      (fun H1 x1 => ⟨false, z, (od11.bn (BN.ext x1)).1⟩) (fun H1 Q1 x1 h => due_read od.2 (fun k hk => ⟨_, rfl, hk v H1 (Same.refl _) ⟨false, z, (od11.bn (BN.ext x1)).1⟩⟩) h) fun G12 x12 t12 => ?_
    exact q G12 (((b09.same s10).trans (BN.ext x11)).trans (BN.ext x12)) (z11.ext x12) t12
end
end Pl

namespace Pl
open L2 PySem PySem.Spec PyProof.Rows
abbrev sChg : Stmt := top 50
abbrev lamC : Str := (envOfC "_law_changes_right" (defScope sChg) 0 0 (.ref 0)).qual ++ "<lambda>"
abbrev nCh : List Str := ["_law_source", "_law_past", "_law_due", "_law_rest", "_law_other", "_law_fresh", "_law_deed_here", "_law_odd", "_law_one_here"]
section
variable {K : PySem.W.Frag} {C z p p' : Addr} {H : Hp} {Q : VK} {E : XK} {ds ds' : List PyData}
theorem pv_eq_t (h : PV C z H p ds) (h' : PV C z H p' ds) (q : Q (.bl true) H) : spEqP K C [.ref p, .ref p'] H Q E := by
  obtain ⟨L, a, e⟩ := h
  obtain ⟨M, b, e'⟩ := h'
  refine ⟨p, z, _, L, rfl, a, .inl ⟨p', z, M, rfl, b, ?_⟩⟩
  obtain ⟨dx, pm, pd, h1, h2, h3, n1, n2, n3, hr, nd, l⟩ := a
  obtain ⟨dx', pm', pd', h1', h2', h3', n1', n2', n3', hr', nd', l'⟩ := b
  rw [hit_self hr hr' nd' ((((sortR_perm L).map rd).symm.trans (by rw [e, ← e'])).trans ((sortR_perm M).map rd))]
  exact q
theorem pv_eq_f (h : PV C z H p ds) (h' : PV C z H p' ds') (n : ds.length ≠ ds'.length) (q : Q (.bl false) H) : spEqP K C [.ref p, .ref p'] H Q E := by
  obtain ⟨L, a, e⟩ := h
  obtain ⟨M, b, e'⟩ := h'
  refine ⟨p, z, _, L, rfl, a, .inl ⟨p', z, M, rfl, b, ?_⟩⟩
  have l1 : L.length = ds.length := by rw [← e, List.length_map, (sortR_perm L).length_eq]
  have l2 : M.length = ds'.length := by rw [← e', List.length_map, (sortR_perm M).length_eq]
  rw [rows_ne (by omega)]
  exact q
theorem pv_eq_l (h : PV C z H p ds) (kl : PySem.W.kitOne K (.type "list") (.ref C) = some false) {u : Addr} {xs : List V} (hu : H u = some (.lst xs)) (q : Q (.bl false) H) : spEqP K C [.ref p, .ref u] H Q E := by
  obtain ⟨L, a, e⟩ := h
  exact ⟨p, z, _, L, rfl, a, .inr ⟨"list", .base (.lst hu), kl, q⟩⟩
theorem PV.ty (h : PV C z H p ds) (ic : C8.InsC K C) : TyX K H (.ref p) (.ref C) := by
  obtain ⟨dx, fs, h1, _⟩ := h.ins
  exact .base (.ins h1 ic.cl ic.ha ic.hn ic.htk ic.hm)
end
theorem bd_strike {mo k : Int} (a : 1 ≤ mo) (b : mo ≤ 999) (c : 0 ≤ k) (d : k ≤ 9) : Bd 210 3 (.tuple [.int mo, .str "strike", .int k]) :=
  (BdA.cons (D := 0) (Bd.int (by omega) (by omega)) (BdA.cons (Bd.str (by decide)) (BdA.cons (Bd.int (by omega) (by omega)) BdA.nil))).tup.mono (by decide) (by decide)
theorem deed_strike {mo k : Int} (a : 1 ≤ mo) (b : mo ≤ 999) (c : 0 ≤ k) (d : k ≤ 9) : isDeed (.tuple [.int mo, .str "strike", .int k]) = true :=
  deed_of a b form_strike (within_of c d)
theorem mk_strike {z t : Addr} {G : Hp} {o : Obj} {mo k : Int} (hz : Src z G) (nt : G t = none) (ho : o.dict = none) (a : 1 ≤ mo) (b : mo ≤ 999) (c : 0 ≤ k) (d : k ≤ 9) : Eld z (upd G t (.frz o (.tup [.int mo, .str "strike", .int k]))) (.ref t, .tuple [.int mo, .str "strike", .int k]) :=
  ⟨fun m => ((mk_tup (vs := [.int mo, .str "strike", .int k]) (ds := [.int mo, .str "strike", .int k]) nt ho hz fun _ => .cons (.int _) (.cons (.str _) (.cons (.int _) .nil))).2.2 m).weak, deed_strike a b c d, bd_strike a b c d⟩
abbrev freshD (mo : Int) : PyData := .tuple [.int mo, .str "put", .int 2, .tuple [.tuple [.str "b", .int 1], .tuple [.str "a", .int 2]]]
theorem deed_fresh {mo : Int} (a : 1 ≤ mo) (b : mo ≤ 999) : isDeed (freshD mo) = true :=
  deed_of a b form_put (by decide +kernel)
theorem bd_fresh {mo : Int} (a : 1 ≤ mo) (b : mo ≤ 999) : Bd 210 3 (freshD mo) := by
  have hp : ∀ {x : Str} {n : Int}, x ∈ nameL → 0 ≤ n → n ≤ 99 → Bd 19 1 (.tuple [.str x, .int n]) := fun h c d => Bd.pair h c d
  exact (BdA.cons (D := 2) (Bd.int (by omega) (by omega)) (BdA.cons (Bd.str (by decide)) (BdA.cons (Bd.int (by omega) (by omega)) (BdA.cons ((BdA.cons (hp (by decide) (by decide) (by decide)) (BdA.cons (hp (by decide) (by decide) (by decide)) BdA.nil)).tup) BdA.nil)))).tup.mono (by decide) (by decide)
theorem seq_rest {c : TT} {a u : TS} {D : Ends} {σ : L2.St} {H : Hp} (P : L2.St → Hp → Prop) (hu : ∀ σ' H', P σ' H' → u D σ' H') (hc : (∀ σ' H', P σ' H' → u D σ' H') → c σ H fun k H1 => if k = true then a { D with nx := u D } σ H1 else u D σ H1) : tSeq (tIfS c a tNext) u D σ H := hc hu
theorem nil_at {σ : L2.St} {H : Hp} {Q : List V → Hp → Prop} (h : Q [] H) : tNil σ H Q := h
theorem if_at {c : TT} {a u : TS} {D : Ends} {σ : L2.St} {H : Hp} (h : c σ H fun k H1 => if k = true then a D σ H1 else u D σ H1) : tIfS c a u D σ H := h
theorem out_perm : ∀ {ds : List PyData} {d : PyData}, UpD ds → d ∈ ds → (outD ds (momD d) ++ [d]).Perm ds
  | e :: ds, d, up, hd => by
    have up' := List.pairwise_cons.mp up
    rcases List.mem_cons.mp hd with rfl | hd; skip
    · have e1 : outD (d :: ds) (momD d) = ds := by
        unfold outD
        rw [List.filter_cons_of_neg (by simp), List.filter_eq_self]
        intro a ha
        have := up'.1 a ha
        exact decide_eq_true (by omega); skip
      rw [e1]
      exact List.perm_append_singleton _ _
    · have e1 : outD (e :: ds) (momD d) = e :: outD ds (momD d) := by
        unfold outD
        have := up'.1 d hd
        exact List.filter_cons_of_pos (p := fun a => decide (momD a ≠ momD d)) (decide_eq_true (by omega))
      rw [e1]
      exact (out_perm up'.2 hd).cons e
theorem out_mom (ds : List PyData) (m : Int) : m ∉ (outD ds m).map momD := fun h => by
  obtain ⟨d, h1, h2⟩ := List.mem_map.mp h
  have := of_decide_eq_true (List.mem_filter.mp h1).2
  exact this h2
theorem due_rows {z u : Addr} {H : Hp} {ds : List PyData} (h : DueAt z H u ds) : ∃ A : List (V × PyData), A.map (·.2) = ds ∧ H u = some (.lst (A.map (·.1))) ∧ (∀ q ∈ A, Eld z H q) ∧ A.length = ds.length := by
  obtain ⟨D, e, hu, hr⟩ := h.ex
  refine ⟨D.map (·.2), by rw [snd_rd, e], by rw [snd_rv]; exact hu, fun q hq => ?_, by rw [List.length_map, ← e, List.length_map]⟩
  obtain ⟨r, hr2, rfl⟩ := List.mem_map.mp hq
  exact (hr r hr2).eld
theorem due_ord {z u : Addr} {H : Hp} {ds : List PyData} (h : DueAt z H u ds) : ds.map inOrd = ds := by
  obtain ⟨D, e, hu, hr⟩ := h.ex
  rw [← e]
  exact rows_ord hr
def spCh (Tb : TbL) (C : Addr) : Sp := fun vs H Q _ => ∃ (z p u : Addr) (ds : List PyData), vs = [.ref z, .ref p, .ref u] ∧ Src z H ∧ PV C z H p ds ∧ DueAt z H u ds ∧ LamX.Tabs Tb H ∧ (∀ d ∈ ds, momD d ≤ 940) ∧ ds.length ≤ 8 ∧ ∀ G, BN z H G → Src z G → LamX.Tabs Tb G → Q (.bl true) G
structure DfG (P : Program) (w : World) (K : PySem.W.Frag) (mg : Str → Option Value) (base : Heap) (k : Nat) (x : Str) (ps : List Str) (sp : Sp) : Prop where
  ex : ∃ (f : Addr) (fd : FuncData), FnG P w K mg base k f fd ps sp ∧ mg x = some (.ref f) ∧ PySem.W.keepIn K (.ref f) = true ∧ Binds K fd ps []
section
variable {P : Program} {w : World} {K : PySem.W.Frag} {mg : Str → Option Value} {base : Heap} {C CP CT : Addr} {c : Fo} {cd Pt : Addr} {Tb : TbL}
theorem scChg : FnScope nCh ["_law_source", "_law_past", "_law_due"] (defScope sChg) := ⟨rfl, rfl, rfl, by decide +kernel, rfl, by decide +kernel, by decide +kernel⟩
theorem ok_chg {f gT : Addr} {fd fdT : FuncData} (F : FunC K "_law_changes_right" "_law_changes_right" sChg f cd fd) (T : Cst K mg) (T2 : Cs2 mg) (S : Tri K mg c) (TB : LamX.TabB base mg cd Pt) (hmT : (Pt, lamC) ∈ Tb) (huT : ∀ p ∈ Tb, p.1 = Pt → p.2 = lamC) (FT : Fun K "_law_caught" "_law_caught" sCaught gT fdT) (mT : mg "_law_caught" = some (.ref gT)) (bT : Binds K fdT ["_law_call"] [])
    (D1 : DOne P w K mg base) (DI : DfG P w K mg base 6 "_law_is_past" ["_law_past", "_law_due"] (spIsP C)) (DK : DfG P w K mg base 4 "_law_kept" ["_law_deeds_here"] (spKept Tb)) (X : PsX P w K mg base C c.d c.m CP CT) : FnG P w K mg base 16 f fd ["_law_source", "_law_past", "_law_due"] (spCh Tb C) := by
  obtain ⟨oc, od, kV, doc, pm, an, cdv, ct, osl, rfl, lT, hcT⟩ := FT.ex
  have kT := FT.kp
  obtain ⟨gO, fdO, GO, mO, kO, bO⟩ := D1.ex
  obtain ⟨gI, fdI, GI, mI, kI, bI⟩ := DI.ex
  obtain ⟨gK, fdK, GK, mK, kK, bK⟩ := DK.ex
  obtain ⟨fW, fdW, GW, meW, bW, _⟩ := X.wo.ex
  obtain ⟨fH, fdH, GH, meH, bH, _⟩ := X.wi.ex
  have pc := X.d.pc.cls
  refine okC F scChg (fun vs H Q E h => ?_) (fun A outer s H vs Q E hgd hr h => ?_)
  · obtain ⟨z, p, u, ds, rfl, _⟩ := h
    rfl
  · obtain ⟨z, p, u, ds, rfl, hz, hp, hd, hT, m940, l8, q⟩ := h
    have hu64 : (A.deeper (envOfC "_law_changes_right" (defScope sChg) s.heap.objs.size f (.ref cd))).units + 64 < cLine := by
      have := hr.un
      omega
    have hun : (A.deeper (envOfC "_law_changes_right" (defScope sChg) s.heap.objs.size f (.ref cd))).units + 128 < cLine := by
      have := hr.un
      omega
    refine ⟨_, pss_cons (ps_if (pt_cmpR (op_neD hu64) (pv 2) (pe_lst pa_nil) (nomark _))
        (pss_cons (ps_set (i := 6) scChg.nd rfl (Or.inr rfl) (pe_call GO (hr.mono (by decide)) (by rfl) mO kO bO .nil pass0 (pa_cons (pv 0) (pa_cons (pv 2) pa_nil))))
        (pss_cons (ps_setLc (i := 3) (own := [("_law_one_here", 8)]) (g := gName 8) (tt := _) rfl scChg.nd rfl rfl (sw_true rfl rfl rfl (by decide +kernel)) (pi_list (pv 2)) (blkOk_by (own := [("_law_one_here", 8)]) (N := nCh) (sc := defScope sChg) (by decide +kernel))
          (fun _ _ _ _ _ => pg_name (i := 8) scChg.nd rfl (Or.inl rfl)) (fun _ _ _ _ _ => pts_one (pt_cmpR op_ne (pe_ix (r := rIxT K) ix_tup (pv 8) pe_int (fun _ _ => rfl)) (pe_ix (r := rIxT K) ix_tup (pv 6) pe_int (fun _ _ => rfl)) (nomark _))) (fun _ _ _ _ _ => pv 8))
        (pss_cons (ps_set (i := 4) scChg.nd rfl (Or.inl rfl) (pe_meth (E := fun _ _ _ => False) (pv 1) pc meW GW (hr.mono (by decide)) bW .nil (passes_call takes0 fun _ _ _ _ h => h) (pa_cons (pe_ix (r := rIxT K) ix_tup (pv 6) pe_int (fun _ _ => rfl)) pa_nil)))
        (pss_cons (ps_if (PW.pt (pw_or (pt_not (pt_val (pe_callG GI hgd (hr.mono (by decide)) (by rfl) mI kI bI (pa_cons (pv 4) (pa_cons (pv 3) pa_nil)))))
            (pw_or (pt_cmpR (op_neO (X.eq.dun (E := E0) pass0) (hr.mono (by decide)) X.ne X.ic.hm) (pe_meth (E := fun _ _ _ => False) (pv 4) pc meH GH (hr.mono (by decide)) bH .nil (passes_call takes0 fun _ _ _ _ h => h) (pa_cons (pv 6) pa_nil)) (pv 1) (nomark _))
            (pw_or1 (pt_cmpR (op_eqO (X.eq.dun (E := E0) pass0) (hr.mono (by decide))) (pv 4) (pv 1) (nomark _)))))) (pss_one (ps_ret pe_bl)) pss_nil)
        (pss_one (ps_if (pt_cmpR (op_neD hu64) (LamX.pe_lamcall (x := "_law_caught") (a := "_law_call") (T := Tb) (TT := TTr c) (k := 12) (by rfl) mT kT lT hcT bT scTried rfl (Or.inl rfl) (tried_gives hgd hun T2 S) TB rfl hmT huT (hr.mono (by decide)) (show LamX.LamS (defScope sChg) _ from LamX.lamS_by (by decide +kernel)) rfl (fun _ _ _ _ _ => rfl)
            (fun A outer s H E f c' hr2 => pe_meth (pv 1) pc meH GH (hr2.mono (by decide)) bH .nil (passes_call (takes_of rfl rfl rfl rfl) fun _ _ _ _ h => h) (pa_cons (pe_tupF (pa_cons (pe_ix (show IxR _ (rIxT K) from ix_tup) (pv 6) pe_int (fun _ _ => rfl)) (pa_cons pe_str (pa_cons pe_int pa_nil)))) pa_nil)))
            (pe_lst (pa_cons pe_str (pa_cons (pe_callB (call_repr hgd hu64) (by rfl) T2.rpr (by decide +kernel) (pa_cons (pe_ix (r := rIxT K) ix_tup (pv 6) pe_int (fun _ _ => rfl)) pa_nil)) pa_nil))) (nomark _)) (pss_one (ps_ret pe_bl)) pss_nil)))))) pss_nil)
      (pss_cons (ps_set (i := 5) scChg.nd rfl (Or.inl rfl) (pe_tupF (pa_cons (pe_call GO (hr.mono (by decide)) (by rfl) mO kO bO .nil pass0 (pa_cons (pv 0) (pa_cons (pe_lst (pa_cons pe_int (pa_cons pe_int (pa_cons pe_int pa_nil)))) pa_nil))) (pa_cons pe_str (pa_cons pe_int (pa_cons (pe_tupF (pa_cons (pe_tupF (pa_cons pe_str (pa_cons pe_int pa_nil))) (pa_cons (pe_tupF (pa_cons pe_str (pa_cons pe_int pa_nil))) pa_nil))) pa_nil))))))
      (pss_cons (ps_if (pt_not (pt_val (pe_callG GI hgd (hr.mono (by decide)) (by rfl) mI kI bI (pa_cons (pe_meth (E := fun _ _ _ => False) (pv 1) pc meH GH (hr.mono (by decide)) bH .nil (passes_call takes0 fun _ _ _ _ h => h) (pa_cons (pv 5) pa_nil)) (pa_cons (pe_callG GK hgd (hr.mono (by decide)) (by rfl) mK kK bK (pa_cons (pe_op op_cat (pv 2) (pe_lst (pa_cons (pv 5) pa_nil))) pa_nil)) pa_nil))))) (pss_one (ps_ret pe_bl)) pss_nil)
      (pss_cons (ps_set (i := 7) scChg.nd rfl (Or.inr rfl) (pe_call GO (hr.mono (by decide)) (by rfl) mO kO bO .nil pass0 (pa_cons (pv 0) (pa_cons (pe_lst (pa_cons pe_non (pa_cons (pe_tup pa_nil) (pa_cons (pe_tupF (pa_cons pe_int (pa_cons pe_str pa_nil))) (pa_cons (pe_lst (pa_cons pe_int (pa_cons pe_str (pa_cons pe_int pa_nil)))) (pa_cons (pe_tupF (pa_cons pe_int (pa_cons pe_str (pa_cons pe_int pa_nil)))) (pa_cons (pe_tupF (pa_cons pe_int (pa_cons pe_str (pa_cons pe_int pa_nil)))) pa_nil))))))) pa_nil))))
      (pss_one (ps_ret (pe_and (pe_cmpR (op_eqD hu64) (LamX.pe_lamcall (x := "_law_caught") (a := "_law_call") (T := Tb) (TT := TTr c) (k := 12) (by rfl) mT kT lT hcT bT scTried rfl (Or.inl rfl) (tried_gives hgd hun T2 S) TB rfl hmT huT (hr.mono (by decide)) (show LamX.LamS (defScope sChg) _ from LamX.lamS_by (by decide +kernel)) rfl (fun _ _ _ _ _ => rfl)
          (fun A outer s H E f c' hr2 => pe_meth (pv 1) pc meH GH (hr2.mono (by decide)) bH .nil (passes_call (takes_of rfl rfl rfl rfl) fun _ _ _ _ h => h) (pa_cons (pv 7) pa_nil)))
          (pe_lst (pa_cons pe_str (pa_cons (pe_callB (call_repr hgd hu64) (by rfl) T2.rpr (by decide +kernel) (pa_cons (pv 7) pa_nil)) pa_nil))) (nomark _))
          (pe_one (pe_callG GI hgd (hr.mono (by decide)) (by rfl) mI kI bI (pa_cons (pv 1) (pa_cons (pv 2) pa_nil)))))))))), ?_⟩
    refine seq_rest (fun σ' G => (∃ x3 x4 x6, σ' = [some (.ref z), some (.ref p), some (.ref u), x3, x4, none, x6, none, none]) ∧ BN z H G ∧ Src z G ∧ LamX.Tabs Tb G) ?_ fun rest => ?_
    · rintro σ' G ⟨⟨x3, x4, x6, rfl⟩, bG, zG, tG⟩
      refine seq_at ⟨_, rfl, by show 3 ≤ sizeLine; decide, fun a1 na1 => ⟨z, a1, _, rfl, zG.new na1, ne_new zG na1, upd_same, by simp, by show 3 ≤ 1000; decide, fun i v G2 hi b2 z2 => ?_⟩⟩
      have b2 := (But.new (z := z) na1).trans b2
      obtain ⟨mo, rfl, mo0, mo1⟩ : ∃ mo : Int, v = .int mo ∧ 990 ≤ mo ∧ mo ≤ 999 := by
        have hm := List.mem_of_getElem? hi; skip
        simp only [List.mem_cons, List.not_mem_nil, or_false] at hm; skip
        rcases hm with rfl | rfl | rfl <;> exact ⟨_, rfl, by decide, by decide⟩
      refine ⟨by show 2 ≤ sizeLine; decide, fun t1 o1 n1 ho1 => ⟨by show 2 ≤ sizeLine; decide, fun t2 o2 n2 ho2 => ⟨by show 2 ≤ sizeLine; decide, fun t3 o3 n3 ho3 => ⟨by show 4 ≤ sizeLine; decide, fun t4 o4 n4 ho4 => ?_⟩⟩⟩⟩
      obtain ⟨c1, z3, d1⟩ := mk_tup (ds := [.str "b", .int 1]) n1 ho1 z2 fun _ => .cons (.str _) (.cons (.int _) .nil)
      obtain ⟨c2, z4, d2⟩ := mk_tup (ds := [.str "a", .int 2]) n2 ho2 z3 fun _ => .cons (.str _) (.cons (.int _) .nil)
      obtain ⟨c3, z5, d3⟩ := mk_tup (ds := [.tuple [.str "b", .int 1], .tuple [.str "a", .int 2]]) n3 ho3 z4 fun m => .cons (Dv.to c2 _ _ _ (d1 m)) (.cons (d2 m) .nil)
      obtain ⟨c4, z6, d4⟩ := mk_tup (ds := [.int mo, .str "put", .int 2, .tuple [.tuple [.str "b", .int 1], .tuple [.str "a", .int 2]]]) n4 ho4 z5 fun m => .cons (.int _) (.cons (.str _) (.cons (.int _) (.cons (d3 m) .nil)))
      have c6 := (((b2.trans c1).trans c2).trans c3).trans c4
      generalize upd _ t4 _ = G6 at c6 z6 d4 ⊢
      have b6 : BN z H G6 := bG.trans (BN.but c6)
      have t6 : LamX.Tabs Tb G6 := tabs_but c6 zG tG
      have p6 := hp.bn b6
      have u6 := hd.bn b6
      have f6 : Eld z G6 (.ref t4, freshD mo) := ⟨fun m => (d4 m).weak, deed_fresh (by omega) mo1, bd_fresh (by omega) mo1⟩
      have new : momD (freshD mo) ∉ ds.map momD := fun h => by
        obtain ⟨d, h1, h2⟩ := List.mem_map.mp h
        have := m940 d h1
        have h2 : momD d = mo := h2
        omega
      obtain ⟨dx, fs, hi6, _, _, lwi, _⟩ := id p6.ins
      refine seq_ifN ⟨_, rfl, p, dx, fs, rfl, hi6, lwi, _, rfl, ?_⟩
      refine nil_at ?_
      refine pv_with p6 (src_lst z6) f6 new (by omega) fun x G7 s7 nx px => ⟨_, rfl, _, rfl, by show 1 ≤ sizeLine; decide, fun l nl => ?_⟩
      have z7 := z6.same s7
      have s78 := same_up (o := .lst [V.ref t4]) nl
      have hl8 : upd G7 l (.lst [V.ref t4]) l = some (.lst [V.ref t4]) := upd_same
      generalize upd G7 l (.lst [V.ref t4]) = G8 at s78 hl8 ⊢
      have s68 := s7.trans s78
      obtain ⟨A0, eA, hA, hE, lA⟩ := due_rows (u6.same s68)
      refine ⟨u, l, _, _, rfl, rfl, hA, hl8, ?_, fun k nk => ?_⟩
      · rw [List.length_map, List.length_singleton]
        exact sz1000 (by omega)
      have s89 := same_up (o := .lst (A0.map (·.1) ++ [V.ref t4])) nk
      have hk9 : upd G8 k (.lst (A0.map (·.1) ++ [V.ref t4])) k = some (.lst (A0.map (·.1) ++ [V.ref t4])) := upd_same
      have z8 := z7.same s78
      have nkz := ne_new z8 nk
      generalize upd G8 k (.lst (A0.map (·.1) ++ [V.ref t4])) = G9 at s89 hk9 ⊢
      have s69 := s68.trans s89
      have eB : ((A0 ++ [(V.ref t4, freshD mo)]).map (·.2)) = ds ++ [freshD mo] := by
        rw [List.map_append, eA]
        rfl
      refine ⟨k, z, A0 ++ [(.ref t4, freshD mo)], rfl, z6.same s69, t6.ext s69, by rw [List.map_append]; exact hk9, nkz, ?_, fun q hq => ?_, ?_, fun u2 G10 e10 t10 d10 => ?_⟩
      · rw [List.length_append, List.length_singleton]; skip
        omega
      · rcases List.mem_append.mp hq with h | h
        · exact (hE q h).bn (BN.of s89)
        · rw [List.mem_singleton.mp h]
          exact f6.bn (BN.of s69)
      · rw [eB, List.map_append]
        refine List.nodup_append.mpr ⟨up_nodup hp.up, by simp, fun x hx y hy exy => ?_⟩
        rw [List.map_singleton, List.mem_singleton] at hy
        rw [hy] at exy
        subst exy
        exact new hx
      have px10 := (px.same (s78.trans s89)).bn (BN.ext e10)
      rw [eB, List.map_append, due_ord hd] at d10
      have z10 := (z6.same s69).ext e10
      have b10 : BN z H G10 := (b6.same s69).trans (BN.ext e10)
      refine ⟨x, u2, z, _, rfl, px10, d10, z10.some, fun G11 s11 => ⟨_, rfl, iteF ?_⟩⟩
      have z11 := z10.same s11
      have b11 := b10.same s11
      have t11 := t10.ext s11
      refine seq_at ⟨_, rfl, by show 0 ≤ sizeLine; decide, fun e1 ne1 => ⟨by show 2 ≤ sizeLine; decide, fun e2 o2' ne2 he2 => ⟨by show 3 ≤ sizeLine; decide, fun e3 ne3 => ⟨by show 3 ≤ sizeLine; decide, fun e4 o4' ne4 he4 => ⟨by show 3 ≤ sizeLine; decide, fun e5 o5' ne5 he5 => ⟨by show 6 ≤ sizeLine; decide, fun e6 ne6 => ?_⟩⟩⟩⟩⟩⟩
      have y1 := same_up (o := .tup []) ne1
      have g1 : upd G11 e1 (.tup []) e1 = _ := upd_same
      have w1 := ne_new z11 ne1
      have z12 := z11.same y1
      generalize upd G11 e1 (.tup []) = K1 at y1 g1 z12 ne2 ne3 ne4 ne5 ne6 ⊢
      obtain ⟨_, z13, g2⟩ := mk_tup (ds := [.int 1, .str "go"]) ne2 he2 z12 fun _ => .cons (.int _) (.cons (.str _) .nil)
      have y2 := same_up (o := .frz o2' (.tup [V.int 1, .str "go"])) ne2
      generalize upd K1 e2 (.frz o2' (.tup [V.int 1, .str "go"])) = K2 at y2 g2 z13 ne3 ne4 ne5 ne6 ⊢
      have y3 := same_up (o := .lst [V.int 1, .str "strike", .int 2]) ne3
      have g3 : upd K2 e3 (.lst [V.int 1, .str "strike", .int 2]) e3 = _ := upd_same
      have w3 := ne_new z13 ne3
      have z14 := z13.same y3
      generalize upd K2 e3 (.lst [V.int 1, .str "strike", .int 2]) = K3 at y3 g3 z14 ne4 ne5 ne6 ⊢
      obtain ⟨_, z15, g4⟩ := mk_tup (ds := [.int 0, .str "strike", .int 1]) ne4 he4 z14 fun _ => .cons (.int _) (.cons (.str _) (.cons (.int _) .nil))
      have y4 := same_up (o := .frz o4' (.tup [V.int 0, .str "strike", .int 1])) ne4
      generalize upd K3 e4 (.frz o4' (.tup [V.int 0, .str "strike", .int 1])) = K4 at y4 g4 z15 ne5 ne6 ⊢
      obtain ⟨_, z16, g5⟩ := mk_tup (ds := [.int 1, .str "strike", .int 10]) ne5 he5 z15 fun _ => .cons (.int _) (.cons (.str _) (.cons (.int _) .nil))
      have y5 := same_up (o := .frz o5' (.tup [V.int 1, .str "strike", .int 10])) ne5
      generalize upd K4 e5 (.frz o5' (.tup [V.int 1, .str "strike", .int 10])) = K5 at y5 g5 z16 ne6 ⊢
      have y6 := same_up (o := .lst [V.non, .ref e1, .ref e2, .ref e3, .ref e4, .ref e5]) ne6
      have g6 : upd K5 e6 (.lst [V.non, .ref e1, .ref e2, .ref e3, .ref e4, .ref e5]) e6 = _ := upd_same
      have w6 := ne_new z16 ne6
      have z17 := z16.same y6
      generalize upd K5 e6 (.lst [V.non, .ref e1, .ref e2, .ref e3, .ref e4, .ref e5]) = K6 at y6 g6 z17 ⊢
      have yA := ((((y1.trans y2).trans y3).trans y4).trans y5).trans y6
      refine ⟨z, e6, _, rfl, z17, w6, g6, by simp, by show 6 ≤ 1000; decide, fun i v G18 hi b18 z18 => ?_⟩
      obtain ⟨e, od0, no⟩ : ∃ e, Ods z K6 (v, e) ∧ isDeed e = false := by
        have hm := List.mem_of_getElem? hi; skip
        simp only [List.mem_cons, List.not_mem_nil, or_false] at hm; skip
        rcases hm with rfl | rfl | rfl | rfl | rfl | rfl
        · exact ⟨_, ⟨.non, by simp [oddE]⟩, by decide +kernel⟩
        · exact ⟨.tuple [], ⟨.tup w1 (.any (((((y2.trans y3).trans y4).trans y5).trans y6) _ _ g1)) .nil, by simp [oddE]⟩, by decide +kernel⟩
        · exact ⟨.tuple [.int 1, .str "go"], ⟨Dv.to (But.of (((y3.trans y4).trans y5).trans y6)) _ _ _ (g2 false).weak, by simp [oddE]⟩, by decide +kernel⟩
        · exact ⟨.list [.int 1, .str "strike", .int 2], ⟨.lst rfl w3 (((y4.trans y5).trans y6) _ _ g3) (.cons (.int _) (.cons (.str _) (.cons (.int _) .nil))), by simp [oddE]⟩, by decide +kernel⟩
        · exact ⟨.tuple [.int 0, .str "strike", .int 1], ⟨Dv.to (But.of (y5.trans y6)) _ _ _ (g4 false).weak, by simp [oddE]⟩, by decide +kernel⟩
        · exact ⟨.tuple [.int 1, .str "strike", .int 10], ⟨Dv.to (But.of y6) _ _ _ (g5 false).weak, by simp [oddE]⟩, by decide +kernel⟩
      have od := od0.bn (BN.but b18)
      obtain ⟨oE, shE, wE, _⟩ := oddE_at od.2
      have b18' : BN z H G18 := (b11.same yA).trans (BN.but b18)
      have t18 : LamX.Tabs Tb G18 := tabs_but b18 z17 (t11.ext yA)
      have p18 := hp.bn b18'
      obtain ⟨dx, fs, hi18, _, _, lwi, _⟩ := id p18.ins
      refine ret_at ?_
      refine eq_caught (v := v) (e := e) c.deed od.2 t18 (fun E1 H1 Q1 x1 r => ⟨_, rfl, p, dx, fs, rfl, x1 _ _ hi18 (fun _ q => nomatch q), lwi, _, rfl, pv_with_bad (p18.bn (BN.ext x1)) (src_lst (z18.ext x1)) (od.bn (BN.ext x1)).1 wE no r⟩)
        (fun H1 x1 => ⟨false, z, (od.bn (BN.ext x1)).1⟩) (fun H1 Q1 x1 h => due_read od.2 (fun k hk => ⟨_, rfl, hk v H1 (Same.refl _) ⟨false, z, (od.bn (BN.ext x1)).1⟩⟩) h) fun G19 x19 t19 => ⟨_, rfl, iteT ?_⟩
      have b19 := b18'.trans (BN.ext x19)
      exact ⟨_, rfl, _, rfl, p, u, z, ds, rfl, hp.bn b19, hd.bn b19, (z18.ext x19).some, fun G20 s20 => q G20 (b19.same s20) ((z18.ext x19).same s20) (t19.ext s20)⟩
    · refine ⟨_, rfl, by show 0 ≤ sizeLine; decide, fun e0 ne0 => ?_⟩
      have y0 := same_up (o := .lst []) ne0
      have g0 : upd H e0 (.lst []) e0 = some (.lst []) := upd_same
      generalize upd H e0 (.lst []) = G0 at y0 g0 ⊢
      refine ⟨_, _, Dv.dp _ _ _ (hd.same y0).dv, .lst (SqL.of g0) .nil, hd.shaped, by rfl, _, rfl, ?_⟩
      rw [eqv_nilD]
      refine ite2 (fun e => ?_) fun e => rest _ _ ⟨⟨_, _, _, rfl⟩, BN.of y0, hz.same y0, hT.ext y0⟩
      have ne : ds.length ≠ 0 := by simpa using e
      obtain ⟨A0, eA, hA, hE, lA⟩ := due_rows (hd.same y0)
      refine seq_at ⟨_, rfl, _, rfl, z, u, _, rfl, hz.same y0, hd.nz, hA, ?_, ?_, fun i v G1 hi b1 z1 => ?_⟩
      · intro h
        have := congrArg List.length h; skip
        rw [List.length_map, lA] at this
        exact ne this
      · rw [List.length_map]
        omega
      obtain ⟨⟨v', d⟩, hq, ev⟩ := fst_get hi
      have ev : v = v' := ev
      subst ev
      have mq := List.mem_of_getElem? hq
      have hds : d ∈ ds := by rw [← eA]; exact List.mem_map.mpr ⟨_, mq, rfl⟩
      have b01 : BN z H G1 := (BN.of y0).trans (BN.but b1)
      have el1 := (hE _ mq).bn (BN.but b1)
      have t1 : LamX.Tabs Tb G1 := tabs_but b1 (hz.same y0) (hT.ext y0)
      have p1 := hp.bn b01
      have u1 := hd.bn b01
      have isd : isDeed d = true := el1.2.1
      obtain ⟨a', vs', ev, ht⟩ := deed_head isd (el1.1 false)
      have ev : v = .ref a' := ev
      subst ev
      have inD : inOrd d = d := by
        have h1 := due_ord hd
        obtain ⟨D, e1, _, hr⟩ := hd.ex
        rw [← e1] at hds
        obtain ⟨r, hr2, rfl⟩ := List.mem_map.mp hds
        exact (hr r hr2).2.2.2.1
      obtain ⟨D, eD, hu1, hr1⟩ := u1.ex
      have lD : D.length = ds.length := by rw [← eD, List.length_map]
      refine seq_at ⟨_, rfl, u, rfl, ⟨_, SqL.of hu1⟩, fun q2 nq2 => ?_⟩
      refine lc_list (K := K) (a := u) (xs := D.map rv) (fun i F => Same G1 F ∧ F q2 = some (.lst (((D.take i).filter fun r => decide (momD (rd r) ≠ momD d)).map rv))) ⟨same_up nq2, by rw [List.take_zero]; exact upd_same⟩ (fun _ _ _ g => SqL.of (g.1 _ _ hu1)) ?_ ?_
      · rintro i y F hy ⟨sF, hD'⟩
        obtain ⟨r, hr2, ey⟩ := Option.map_eq_some_iff.mp ((List.getElem?_map).symm.trans hy)
        have rp := (hr1 r (List.mem_of_getElem? hr2)).same sF
        obtain ⟨a2, vs2, ev2, ht2⟩ := deed_head rp.2.1 (rp.1 false)
        have ey : rv r = y := ey
        rw [ev2] at ey
        subst ey
        have htF := ht.to (But.of (z := z) sF) (by
          obtain ⟨o, ho⟩ := src_lst z1
          exact ht.ne_z ho)
        refine ⟨rfl, _, rfl, a2, _, _, .int (momD (rd r)), rfl, rfl, ht2.sq, atI_nat (j := 0) rfl, _, rfl, a', _, _, .int (momD d), rfl, rfl, htF.sq, atI_nat (j := 0) rfl, rfl, _, rfl, ?_⟩
        rw [take_flt _ hr2]
        by_cases eq_ : momD (rd r) = momD d
        · have e1 : decide (V.int (momD (rd r)) = V.int (momD d)) = true := decide_eq_true (by rw [eq_])
          rw [e1]
          refine iteF ?_
          rw [if_neg (by simp [eq_]), List.append_nil]
          exact ⟨sF, hD'⟩
        · have e1 : decide (V.int (momD (rd r)) = V.int (momD d)) = false := decide_eq_false fun h => eq_ (V.int.inj h)
          rw [e1]
          refine iteT ?_
          rw [if_pos (by simp [eq_])]
          refine ⟨_, rfl, _, hD', ?_, sup nq2 sF, ?_⟩
          · rw [List.length_map]
            have t1 := List.length_filter_le (fun r : RowD => decide (momD (rd r) ≠ momD d)) (D.take i)
            rw [List.length_take] at t1
            exact small1000 (by omega)
          · rw [upd_same, List.map_append, ← ev2]
            rfl
      rintro G2 ⟨s2, hq2⟩
      rw [List.length_map, List.take_length] at hq2
      have eO : ((D.filter fun r => decide (momD (rd r) ≠ momD d)).map rd) = outD ds (momD d) := by
        rw [← eD]
        unfold outD
        rw [List.filter_map]
        rfl
      have opm := out_perm hp.up hds
      have ol : (outD ds (momD d)).length + 1 = ds.length := by
        have := opm.length_eq
        rwa [List.length_append, List.length_singleton] at this
      have du2 : DueAt z G2 q2 (outD ds (momD d)) := ⟨⟨_, eO, hq2, fun r h => (hr1 r (List.mem_filter.mp h).1).same s2⟩, ne_new z1 nq2, outD_up hp.up _, by omega⟩
      have p2 := p1.same s2
      have el2 := el1.bn (BN.of s2)
      have z2 := z1.same s2
      obtain ⟨dx, fs, hi2, _, _, lwi, lwo⟩ := id p2.ins
      have nza := ht.ne_z (src_lst z1).choose_spec
      have ht2 := ht.to (But.of (z := z) s2) nza
      refine seq_at ⟨_, rfl, p, dx, fs, rfl, hi2, lwo, _, rfl, a', _, _, .int (momD d), rfl, rfl, ht2.sq, atI_nat (j := 0) rfl, ?_⟩
      refine nil_at ?_
      refine pv_wo p2 (src_lst z2) hds fun x G3 s3 nx px => ?_
      obtain ⟨dx3, fs3, hi3, _, _, lwi3, _⟩ := id px.ins
      have z3 := z2.same s3
      refine seq_ifN ⟨_, rfl, _, rfl, x, q2, z, _, rfl, px, du2.same s3, z3.some, fun G4 s4 => ⟨_, rfl, ?_⟩⟩
      refine ite2 (fun e => absurd e (by decide)) fun _ => ?_
      refine ⟨_, rfl, x, dx3, fs3, rfl, s4 _ _ hi3, lwi3, _, rfl, ?_⟩
      refine nil_at ?_
      have s24 := s3.trans s4
      have z4 := z3.same s4
      refine pv_with (px.same s4) (src_lst z4) (el2.bn (BN.of s24)) (out_mom _ _) (by omega) fun y G5 s5 ny py => ?_
      have s25 := s24.trans s5
      have p5 := p2.same s25
      have eqd : srtD (outD ds (momD d) ++ [inOrd d]) = ds := by
        rw [inD]
        refine up_uniq (srtD_up ?_) hp.up ((srtD_perm _).trans opm)
        exact (opm.map momD).nodup_iff.mpr (up_nodup hp.up)
      rw [eqd] at py
      obtain ⟨dxy, fsy, hiy, _⟩ := id py.ins
      refine ⟨_, rfl, y, dxy, fsy, .ref C, rfl, hiy, p5.ty X.ic, X.nf, pv_eq_t py p5 ⟨true, rfl, _, rfl, ?_⟩⟩
      refine ite2 (fun e => absurd e (by decide)) fun _ => ?_
      refine ⟨_, rfl, _, rfl, x, dx3, fs3, .ref C, rfl, (s4.trans s5) _ _ hi3, p5.ty X.ic, X.nf, pv_eq_f (px.same (s4.trans s5)) p5 (by omega) ⟨false, rfl, _, rfl, ?_⟩⟩
      refine ite2 (fun e => absurd e (by decide)) fun _ => ?_
      have b5 : BN z H G5 := (b01.same s2).same s25
      have z5 := z2.same s25
      have t5 := (t1.ext s2).ext s25
      have ht5 := ht2.to (But.of (z := z) s25) nza
      have me : PyData.int (momD d) ∈ oddE := by
        have := mom_in isd
        exact int_odd (by omega) (by omega)
      refine if_at (test_at ?_)
      refine ne_caught (v := .int (momD d)) (e := .int (momD d)) c.moment me t5 (fun E1 H1 Q1 x1 r => ⟨_, rfl, p, dx, fs, rfl, x1 _ _ (s25 _ _ hi2) (fun _ q => nomatch q), lwi, _, rfl, a', _, _, .int (momD d), rfl, rfl, (ht5.bn (BN.ext x1) nza).sq, atI_nat (j := 0) rfl, by show 3 ≤ sizeLine; decide, fun t o nt ho => ?_⟩)
        (fun H1 x1 => ⟨false, z, .int _⟩) (fun H1 Q1 x1 h => due_read me (fun k hk => ⟨_, rfl, a', _, _, .int (momD d), rfl, rfl, (ht5.bn (BN.ext x1) nza).sq, atI_nat (j := 0) rfl, hk _ H1 (Same.refl _) ⟨false, z, .int _⟩⟩) h) fun G6 x6 t6 => ⟨_, rfl, iteF (rest _ _ ⟨⟨_, _, _, rfl⟩, b5.trans (BN.ext x6), z5.ext x6, t6⟩)⟩
      have yt := same_up (o := .frz o (.tup [V.int (momD d), .str "strike", .int 3])) nt
      refine nil_at ?_
      have := mom_in isd
      exact pv_with_twice ((p5.bn (BN.ext x1)).same yt) (src_lst ((z5.ext x1).same yt)) (mk_strike (z5.ext x1) nt ho (by omega) (by omega) (by decide) (by decide)) (List.mem_map.mpr ⟨d, hds, rfl⟩) (Rais.same r yt)
end
end Pl

namespace Pl
open L2 PySem PySem.Spec PyProof.Rows
abbrev sRef : Stmt := top 51
abbrev lamF : Str := (envOfC "_law_refused_right" (defScope sRef) 0 0 (.ref 0)).qual ++ "<lambda>"
abbrev nRf : List Str := ["_law_source", "_law_deeds_here", "_law_at", "_law_bad", "_law_none", "_law_some", "_law_twice"]
theorem bad_at : ∀ {ds : List PyData} {e : PyData} {r : List PyData} {seen : List Int} {i : Nat}, (∀ d ∈ ds, isDeed d = true) → (seen ++ ds.map momD).Nodup → ¬ (isDeed e = true ∧ momD e ∉ seen ++ ds.map momD) → firstBad seen i (ds ++ e :: r) = some (i + ds.length)
  | [], e, r, seen, i, _, _, no => by
    rw [List.map_nil, List.append_nil] at no
    exact bad_here no
  | d :: ds, e, r, seen, i, h, n, no => by
    rw [List.map_cons] at n no
    have nd : momD d ∉ seen := fun hm => (List.nodup_append.mp n).2.2 _ hm _ List.mem_cons_self rfl
    rw [List.cons_append, bad_step (h d List.mem_cons_self) nd, bad_at (fun e he => h e (List.mem_cons_of_mem _ he)) (by rw [List.append_assoc]; exact n) (by rw [List.append_assoc]; exact no)]
    congr 1
    rw [List.length_cons]
    omega
theorem cut_drop (ts : List V) {r : Int} (h : 0 ≤ r) : cutV ts (some r) none = ts.drop r.toNat := by
  unfold cutV
  have e1 : HT.sIx ts.length ts.length none = ts.length := rfl
  have e2 : HT.sIx ts.length 0 (some r) = min r.toNat ts.length := by
    simp [HT.sIx]
    omega
  rw [e1, e2, List.take_of_length_le (by rw [List.length_drop]; exact Nat.le_refl _)]
  by_cases hl : r.toNat ≤ ts.length
  · rw [Nat.min_eq_left hl]
  · rw [Nat.min_eq_right (by omega), List.drop_of_length_le (Nat.le_refl _), List.drop_of_length_le (by omega)]; skip
theorem kit_no {K : PySem.W.Frag} {kd : String} (h1 : kitB kd "list" = some false) (h2 : kitB kd "tuple" = some false) : PySem.W.kitAny K (.type kd) [.type "list", .type "tuple"] = some false := by
  unfold PySem.W.kitAny
  rw [show PySem.W.kitOne K (.type kd) (.type "list") = some false from kit_ty h1]
  show PySem.W.kitAny K (.type kd) [.type "tuple"] = some false
  unfold PySem.W.kitAny
  rw [show PySem.W.kitOne K (.type kd) (.type "tuple") = some false from kit_ty h2]
  rfl
theorem atI_back {α : Type} {xs : List α} {r : Int} (n : xs ≠ []) (r0 : 0 ≤ r) (r1 : r < (xs.length : Int) + 1) : ∃ x ∈ xs, atI xs (r - 1) = some x := by
  have l0 : 0 < xs.length := List.length_pos_iff.mpr n
  have key : ∀ j, j < xs.length → ixN xs.length (r - 1) = some j → ∃ x ∈ xs, atI xs (r - 1) = some x := fun j hj e => by
    refine ⟨xs[j], List.getElem_mem hj, ?_⟩
    unfold atI
    rw [e]
    exact List.getElem?_eq_getElem hj
  by_cases h : r = 0
  · refine key (xs.length - 1) (by omega) ?_
    unfold ixN
    subst h
    rw [if_neg (by omega), if_pos (by omega)]
    congr 1
    omega
  · refine key (r - 1).toNat (by omega) ?_
    unfold ixN
    rw [if_pos (by omega), if_pos (by omega)]; skip
def spRf (Tb : TbL) : Sp := fun vs H Q _ => ∃ (z l : Addr) (A : List (V × PyData)), vs = [.ref z, .ref l] ∧ Src z H ∧ LamX.Tabs Tb H ∧ H l = some (.lst (A.map (·.1))) ∧ l ≠ z ∧ A.length ≤ 8 ∧ (∀ q ∈ A, Eld z H q) ∧ ((A.map (·.2)).map momD).Nodup ∧ ∀ G, BN z H G → Src z G → LamX.Tabs Tb G → Q (.bl true) G
section
variable {P : Program} {w : World} {K : PySem.W.Frag} {mg : Str → Option Value} {base : Heap} {C : Addr} {c : Fo} {cd Pt : Addr} {Tb : TbL}
theorem scRef : FnScope nRf ["_law_source", "_law_deeds_here"] (defScope sRef) := ⟨rfl, rfl, rfl, by decide +kernel, rfl, by decide +kernel, by decide +kernel⟩
theorem ok_ref {f gT : Addr} {fd fdT : FuncData} (F : FunC K "_law_refused_right" "_law_refused_right" sRef f cd fd) (T : Cst K mg) (T2 : Cs2 mg) (S : Tri K mg c) (TB : LamX.TabB base mg cd Pt) (hmT : (Pt, lamF) ∈ Tb) (huT : ∀ p ∈ Tb, p.1 = Pt → p.2 = lamF) (FT : Fun K "_law_caught" "_law_caught" sCaught gT fdT) (mT : mg "_law_caught" = some (.ref gT)) (bT : Binds K fdT ["_law_call"] [])
    (D1 : DOne P w K mg base) (D0 : DTake P w K mg base) (X : PsX P w K mg base C c.d c.m c.p c.t) : FnG P w K mg base 16 f fd ["_law_source", "_law_deeds_here"] (spRf Tb) := by
  obtain ⟨oc, od, kV, doc, pm, an, cdv, ct, osl, rfl, lT, hcT⟩ := FT.ex
  have kT := FT.kp
  obtain ⟨gO, fdO, GO, mO, kO, bO⟩ := D1.ex
  obtain ⟨gK, fdK, GK, mK, kK, bK⟩ := D0.ex
  obtain ⟨fN, fdN, mkN, GN, hN, bN⟩ := X.make.ex
  refine okC F scRef (fun vs H Q E h => ?_) (fun A outer s H vs Q E hgd hr h => ?_)
  · obtain ⟨z, l, AA, rfl, _⟩ := h
    rfl
  · obtain ⟨z, l, AA, rfl, hz, hT, hl, nl, lA, hE, nd, q⟩ := h
    have hu64 : (A.deeper (envOfC "_law_refused_right" (defScope sRef) s.heap.objs.size f (.ref cd))).units + 64 < cLine := by
      have := hr.un
      omega
    have hun : (A.deeper (envOfC "_law_refused_right" (defScope sRef) s.heap.objs.size f (.ref cd))).units + 128 < cLine := by
      have := hr.un
      omega
    refine ⟨_, pss_cons (ps_set (i := 4) scRef.nd rfl (Or.inr rfl) (pe_call GO (hr.mono (by decide)) (by rfl) mO kO bO .nil pass0 (pa_cons (pv 0) (pa_cons (pe_lst (pa_cons pe_int (pa_cons pe_str (pa_cons pe_dnewK (pa_cons pe_bl (pa_cons pe_non pa_nil)))))) pa_nil))))
      (pss_cons (ps_if (pt_cmpR (op_neD hu64) (LamX.pe_lamcall (x := "_law_caught") (a := "_law_call") (T := Tb) (TT := TTr c) (k := 12) (by rfl) mT kT lT hcT bT scTried rfl (Or.inl rfl) (tried_gives hgd hun T2 S) TB rfl hmT huT (hr.mono (by decide)) (show LamX.LamS (defScope sRef) _ from LamX.lamS_by (by decide +kernel)) rfl (fun _ _ _ _ _ => rfl)
          (fun A outer s H E f c' hr2 => pe_make (E := E) mkN GN (hr2.mono (by decide)) (by rfl) hN bN .nil (passes_call (takes_of rfl rfl rfl rfl) fun _ _ _ _ h => h) (pa_cons (pv 4) pa_nil)))
          (pe_lst (pa_cons pe_str (pa_cons pe_str pa_nil))) (nomark _)) (pss_one (ps_ret pe_bl)) pss_nil)
      (pss_cons (ps_set (i := 2) scRef.nd rfl (Or.inl rfl) (pe_call GK (hr.mono (by decide)) (by rfl) mK kK bK .nil pass0 (pa_cons (pv 0) (pa_cons (pe_op op_add (pe_callB call_len_seq (by rfl) T.len PySem.boot_len (pa_cons (pv 1) pa_nil)) pe_int) pa_nil))))
      (pss_cons (ps_set (i := 3) scRef.nd rfl (Or.inl rfl) (pe_call GO (hr.mono (by decide)) (by rfl) mO kO bO .nil pass0 (pa_cons (pv 0) (pa_cons (pe_lst (pa_cons pe_non (pa_cons (pe_tup pa_nil) (pa_cons (pe_tupF (pa_cons pe_int (pa_cons pe_str pa_nil))) (pa_cons (pe_tupF (pa_cons pe_int (pa_cons pe_str (pa_cons pe_int pa_nil)))) pa_nil))))) pa_nil))))
      (pss_cons (ps_set (i := 5) scRef.nd rfl (Or.inr rfl) (pe_op op_cat (pe_op op_cat (pe_op op_cat (pe_slice sl_list (pv 1) po_none (po_some (pv 2))) (pe_lst (pa_cons (pv 3) pa_nil))) (pe_slice sl_list (pv 1) (po_some (pv 2)) po_none)) (pe_lst (pa_cons pe_non pa_nil))))
      (pss_cons (ps_if (pt_cmpR (op_neD hu64) (LamX.pe_lamcall (x := "_law_caught") (a := "_law_call") (T := Tb) (TT := TTr c) (k := 12) (by rfl) mT kT lT hcT bT scTried rfl (Or.inl rfl) (tried_gives hgd hun T2 S) TB rfl hmT huT (hr.mono (by decide)) (show LamX.LamS (defScope sRef) _ from LamX.lamS_by (by decide +kernel)) rfl (fun _ _ _ _ _ => rfl)
          (fun A outer s H E f c' hr2 => pe_make (E := E) mkN GN (hr2.mono (by decide)) (by rfl) hN bN .nil (passes_call (takes_of rfl rfl rfl rfl) fun _ _ _ _ h => h) (pa_cons (pv 5) pa_nil)))
          (pe_lst (pa_cons pe_str (pa_cons (pe_callB (call_repr hgd hu64) (by rfl) T2.rpr (by decide +kernel) (pa_cons (pv 2) pa_nil)) pa_nil))) (nomark _)) (pss_one (ps_ret pe_bl)) pss_nil)
      (pss_cons (ps_if (pt_cmpR (op_eqD hu64) (pv 1) (pe_lst pa_nil) (nomark _)) (pss_one (ps_ret pe_bl)) pss_nil)
      (pss_cons (ps_set (i := 6) scRef.nd rfl (Or.inr rfl) (pe_op op_cat (pv 1) (pe_lst (pa_cons (pe_tupF (pa_cons (pe_ix (r := rIxT K) ix_tup (pe_ix (show IxR _ (rIxL K) from ix_list) (pv 1) (pe_op op_sub (pv 2) pe_int) (fun _ _ => rfl)) pe_int (fun _ _ => rfl)) (pa_cons pe_str (pa_cons pe_int pa_nil)))) pa_nil))))
      (pss_one (ps_ret (pe_cmpR (op_eqD hu64) (LamX.pe_lamcall (x := "_law_caught") (a := "_law_call") (T := Tb) (TT := TTr c) (k := 12) (by rfl) mT kT lT hcT bT scTried rfl (Or.inl rfl) (tried_gives hgd hun T2 S) TB rfl hmT huT (hr.mono (by decide)) (show LamX.LamS (defScope sRef) _ from LamX.lamS_by (by decide +kernel)) rfl (fun _ _ _ _ _ => rfl)
          (fun A outer s H E f c' hr2 => pe_make (E := E) mkN GN (hr2.mono (by decide)) (by rfl) hN bN .nil (passes_call (takes_of rfl rfl rfl rfl) fun _ _ _ _ h => h) (pa_cons (pe_callTy (show CallR _ (.type "tuple") (fun xs H Q => ∃ p ys, xs = [.ref p] ∧ ((SqL K H p ys ∧ ∀ l, H l = none → Q (.ref l) (upd H l (.tup ys))) ∨ (SqT K H p ys ∧ Q (.ref p) H))) from call_tuple_of) (by rfl) T.ttup (by decide +kernel) (pa_cons (pv 6) pa_nil)) pa_nil)))
          (pe_lst (pa_cons pe_str (pa_cons (pe_callB (call_repr hgd hu64) (by rfl) T2.rpr (by decide +kernel) (pa_cons (pe_callB call_len_seq (by rfl) T.len PySem.boot_len (pa_cons (pv 1) pa_nil)) pa_nil)) pa_nil))) (nomark _))))))))))), ?_⟩
    have z0 := hz
    refine seq_at ⟨_, rfl, fun e1 ne1 => ⟨by show 5 ≤ sizeLine; decide, fun e2 ne2 => ?_⟩⟩
    have y1 := same_up (o := .dK []) ne1
    have g1 : upd H e1 (.dK []) e1 = some (.dK []) := upd_same
    have w1 := ne_new hz ne1
    have z1 := hz.same y1
    generalize upd H e1 (.dK []) = K1 at y1 g1 z1 ne2 ⊢
    have y2 := same_up (o := .lst [V.int 3, .str "past", .ref e1, .bl true, .non]) ne2
    have g2 : upd K1 e2 (.lst [V.int 3, .str "past", .ref e1, .bl true, .non]) e2 = _ := upd_same
    have w2 := ne_new z1 ne2
    have z2 := z1.same y2
    generalize upd K1 e2 (.lst [V.int 3, .str "past", .ref e1, .bl true, .non]) = K2 at y2 g2 z2 ⊢
    refine ⟨z, e2, _, rfl, z2, w2, g2, by simp, by show 5 ≤ 1000; decide, fun i v G2 hi b2 z3 => ?_⟩
    have b02 : BN z H G2 := (BN.of (y1.trans y2)).trans (BN.but b2)
    have t2 : LamX.Tabs Tb G2 := tabs_but b2 z2 (hT.ext (y1.trans y2))
    obtain ⟨kd, ty, no⟩ : ∃ kd : String, (∀ G, LamX.ExtN G2 G → TyX K G v (.type kd)) ∧ PySem.W.kitAny K (.type kd) [.type "list", .type "tuple"] = some false := by
      have hm := List.mem_of_getElem? hi; skip
      simp only [List.mem_cons, List.not_mem_nil, or_false] at hm; skip
      rcases hm with rfl | rfl | rfl | rfl | rfl
      · exact ⟨_, fun G _ => .base (.int _), kit_no (by decide +kernel) (by decide +kernel)⟩
      · exact ⟨_, fun G _ => .base (.str _), kit_no (by decide +kernel) (by decide +kernel)⟩
      · exact ⟨_, fun G x => .base (.dK (x _ _ (b2 _ _ w1 trivial (y2 _ _ g1)) fun _ q => nomatch q)), kit_no (by decide +kernel) (by decide +kernel)⟩
      · exact ⟨_, fun G _ => .base (.bl _), kit_no (by decide +kernel) (by decide +kernel)⟩
      · exact ⟨_, fun G _ => .base .non, kit_no (by decide +kernel) (by decide +kernel)⟩
    refine seq_ifN (test_at ?_)
    refine ne_caught (v := .non) (e := .none) c.past (by simp [oddE]) t2 (fun E1 H1 Q1 x1 r => ⟨_, rfl, mk_past (.inl ⟨kd, fun G s => ty G (x1.trans (LamX.ExtN.of s)), no, r⟩)⟩) (fun H1 x1 => ⟨false, z, .non⟩) (fun H1 Q1 x1 h => ⟨by show 2 ≤ sizeLine; decide, fun p2 hp2 => h p2 _ (same_up hp2) upd_same⟩) fun G3 x3 t3 => ⟨_, rfl, iteF ?_⟩
    have b03 := b02.trans (BN.ext x3)
    have z4 := z3.ext x3
    have hl3 : G3 l = some (.lst (AA.map (·.1))) := b03 _ _ nl (fun _ q => nomatch q) hl
    refine seq_at ⟨_, rfl, _, rfl, l, _, rfl, .inl (SqL.of hl3), _, _, rfl, rfl, z, _, rfl, z4, by omega, by rw [List.length_map]; omega, fun r G4 r0 r1 b4 z5 => ?_⟩
    rw [List.length_map] at r1
    obtain ⟨at_, rfl⟩ : ∃ n : Nat, r = n := ⟨r.toNat, by omega⟩
    have b04 := b03.trans (BN.but b4)
    have t4 := tabs_but b4 z4 t3
    refine seq_at ⟨_, rfl, by show 0 ≤ sizeLine; decide, fun e3 ne3 => ⟨by show 2 ≤ sizeLine; decide, fun e4 o4 ne4 he4 => ⟨by show 3 ≤ sizeLine; decide, fun e5 o5 ne5 he5 => ⟨by show 4 ≤ sizeLine; decide, fun e6 ne6 => ?_⟩⟩⟩⟩
    have y3 := same_up (o := .tup []) ne3
    have g3 : upd G4 e3 (.tup []) e3 = some (.tup []) := upd_same
    have w3 := ne_new z5 ne3
    have z6 := z5.same y3
    generalize upd G4 e3 (.tup []) = K3 at y3 g3 z6 ne4 ne5 ne6 ⊢
    obtain ⟨_, z7, g4⟩ := mk_tup (ds := [.int 1, .str "strike"]) ne4 he4 z6 fun _ => .cons (.int _) (.cons (.str _) .nil)
    have y4 := same_up (o := .frz o4 (.tup [V.int 1, .str "strike"])) ne4
    generalize upd K3 e4 (.frz o4 (.tup [V.int 1, .str "strike"])) = K4 at y4 g4 z7 ne5 ne6 ⊢
    obtain ⟨_, z8, g5⟩ := mk_tup (ds := [.int 1000, .str "strike", .int 1]) ne5 he5 z7 fun _ => .cons (.int _) (.cons (.str _) (.cons (.int _) .nil))
    have y5 := same_up (o := .frz o5 (.tup [V.int 1000, .str "strike", .int 1])) ne5
    generalize upd K4 e5 (.frz o5 (.tup [V.int 1000, .str "strike", .int 1])) = K5 at y5 g5 z8 ne6 ⊢
    have y6 := same_up (o := .lst [V.non, .ref e3, .ref e4, .ref e5]) ne6
    have g6 : upd K5 e6 (.lst [V.non, .ref e3, .ref e4, .ref e5]) e6 = _ := upd_same
    have w6 := ne_new z8 ne6
    have z9 := z8.same y6
    generalize upd K5 e6 (.lst [V.non, .ref e3, .ref e4, .ref e5]) = K6 at y6 g6 z9 ⊢
    have yA := ((y3.trans y4).trans y5).trans y6
    refine ⟨z, e6, _, rfl, z9, w6, g6, by simp, by show 4 ≤ 1000; decide, fun i vb G8 hi b8 z10 => ?_⟩
    obtain ⟨db, dv0, no8, w8⟩ : ∃ db, Dv false z K6 false vb db ∧ isDeed db = false ∧ db.weight ≤ 1000 := by
      have hm := List.mem_of_getElem? hi; skip
      simp only [List.mem_cons, List.not_mem_nil, or_false] at hm; skip
      rcases hm with rfl | rfl | rfl | rfl; skip
      · exact ⟨.none, .non, by decide +kernel, by decide +kernel⟩
      · exact ⟨.tuple [], .tup w3 (.any (((y4.trans y5).trans y6) _ _ g3)) .nil, by decide +kernel, by decide +kernel⟩
      · exact ⟨.tuple [.int 1, .str "strike"], Dv.to (But.of (y5.trans y6)) _ _ _ (g4 false).weak, by decide +kernel, by decide +kernel⟩
      · exact ⟨.tuple [.int 1000, .str "strike", .int 1], Dv.to (But.of y6) _ _ _ (g5 false).weak, by decide +kernel, by decide +kernel⟩
    have b08 := (b04.same yA).trans (BN.but b8)
    have t8 : LamX.Tabs Tb G8 := tabs_but b8 z9 (t4.ext yA)
    have dv8 := Dv.bn (BN.but b8) _ _ _ dv0
    have hl8 : G8 l = some (.lst (AA.map (·.1))) := b08 _ _ nl (fun _ q => nomatch q) hl
    refine seq_at ⟨_, rfl, _, rfl, (at_ : Int), rfl, l, _, rfl, SqL.of hl8, fun p1 n1 => ⟨_, rfl, by show 1 ≤ sizeLine; decide, fun p2 n2 => ?_⟩⟩
    rw [cut_take _ (by omega), Int.toNat_natCast] at n2 ⊢
    have j1 := same_up (o := .lst ((AA.map (·.1)).take at_)) n1
    have k1 : upd G8 p1 (.lst ((AA.map (·.1)).take at_)) p1 = _ := upd_same
    generalize upd G8 p1 (.lst ((AA.map (·.1)).take at_)) = J1 at j1 k1 n2 ⊢
    have j2 := same_up (o := .lst [vb]) n2
    have k2 : upd J1 p2 (.lst [vb]) p2 = _ := upd_same
    generalize upd J1 p2 (.lst [vb]) = J2 at j2 k2 ⊢
    have lt1 : ((AA.map (·.1)).take at_).length ≤ 8 := by
      rw [List.length_take, List.length_map]
      omega
    have lt2 : ((AA.map (·.1)).drop at_).length ≤ 8 := by
      rw [List.length_drop, List.length_map]
      omega
    refine ⟨p1, p2, _, _, rfl, rfl, j2 _ _ k1, k2, sz1000 (by rw [List.length_singleton]; omega), fun p3 n3 => ⟨_, rfl, _, rfl, (at_ : Int), rfl, l, AA.map (·.1), rfl, ?_⟩⟩
    have j3 := same_up (o := .lst ((AA.map (·.1)).take at_ ++ [vb])) n3
    have k3 : upd J2 p3 (.lst ((AA.map (·.1)).take at_ ++ [vb])) p3 = _ := upd_same
    generalize upd J2 p3 (.lst ((AA.map (·.1)).take at_ ++ [vb])) = J3 at j3 k3 ⊢
    have j03 := (j1.trans j2).trans j3
    refine ⟨SqL.of (j03 _ _ hl8), fun p4 n4 => ?_⟩
    rw [cut_drop _ (by omega), Int.toNat_natCast]
    have j4 := same_up (o := .lst ((AA.map (·.1)).drop at_)) n4
    have k4 : upd J3 p4 (.lst ((AA.map (·.1)).drop at_)) p4 = _ := upd_same
    generalize upd J3 p4 (.lst ((AA.map (·.1)).drop at_)) = J4 at j4 k4 ⊢
    refine ⟨p3, p4, _, _, rfl, rfl, j4 _ _ k3, k4, sz1000 (by rw [List.length_append, List.length_singleton]; omega), fun p5 n5 => ⟨by show 1 ≤ sizeLine; decide, fun p6 n6 => ?_⟩⟩
    have j5 := same_up (o := .lst ((AA.map (·.1)).take at_ ++ [vb] ++ (AA.map (·.1)).drop at_)) n5
    have k5 : upd J4 p5 (.lst ((AA.map (·.1)).take at_ ++ [vb] ++ (AA.map (·.1)).drop at_)) p5 = _ := upd_same
    generalize upd J4 p5 (.lst ((AA.map (·.1)).take at_ ++ [vb] ++ (AA.map (·.1)).drop at_)) = J5 at j5 k5 n6 ⊢
    have j6 := same_up (o := .lst [V.non]) n6
    have k6 : upd J5 p6 (.lst [V.non]) p6 = _ := upd_same
    generalize upd J5 p6 (.lst [V.non]) = J6 at j6 k6 ⊢
    refine ⟨p5, p6, _, _, rfl, rfl, j6 _ _ k5, k6, sz1000 (by rw [List.length_append, List.length_append, List.length_singleton, List.length_singleton]; omega), fun p7 n7 => ?_⟩
    have eA : (AA.map (·.1)).take at_ ++ [vb] ++ (AA.map (·.1)).drop at_ ++ [V.non] = (AA.take at_ ++ (vb, db) :: (AA.drop at_ ++ [(V.non, PyData.none)])).map (·.1) := by
      simp [List.map_take, List.map_drop]
    rw [eA]
    have lA2 : (AA.take at_ ++ (vb, db) :: (AA.drop at_ ++ [(V.non, PyData.none)])).length ≤ 20 := by
      rw [List.length_append, List.length_cons, List.length_append, List.length_take, List.length_drop, List.length_singleton]
      omega
    have eB : (AA.take at_ ++ (vb, db) :: (AA.drop at_ ++ [(V.non, PyData.none)])).map (·.2) = (AA.take at_).map (·.2) ++ db :: ((AA.drop at_ ++ [(V.non, PyData.none)])).map (·.2) := by
      rw [List.map_append, List.map_cons]
    have fb : firstBad [] 0 ((AA.take at_ ++ (vb, db) :: (AA.drop at_ ++ [(V.non, PyData.none)])).map (·.2)) = some at_ := by
      have hbb := bad_at (ds := (AA.take at_).map (·.2)) (e := db) (r := ((AA.drop at_ ++ [(V.non, PyData.none)])).map (·.2)) (seen := []) (i := 0) (fun d hd => by
          obtain ⟨q, hq, rfl⟩ := List.mem_map.mp hd; skip
          exact (hE q (List.mem_of_mem_take hq)).2.1) (by
          rw [List.nil_append]
          exact nd.sublist (((List.take_sublist _ _).map _).map _)) (by
          rw [no8]
          exact fun h => Bool.false_ne_true h.1)
      rw [eB, hbb, List.length_map, List.length_take]
      congr 1
      omega
    have hEl : ∀ q ∈ AA.take at_ ++ (vb, db) :: (AA.drop at_ ++ [(V.non, PyData.none)]), El z G8 q := by
      intro q hq
      rcases List.mem_append.mp hq with h | h
      · exact ((hE q (List.mem_of_mem_take h)).bn b08).el
      · rcases List.mem_cons.mp h with rfl | h; skip
        · exact ⟨dv8, w8, fun y => by rw [no8] at y; cases y⟩
        · rcases List.mem_append.mp h with h | h; skip
          · exact ((hE q (List.mem_of_mem_drop h)).bn b08).el
          · rw [List.mem_singleton.mp h]
            exact ⟨.non, by show PyData.none.weight ≤ 1000; decide +kernel, fun y => absurd y (by decide +kernel)⟩
    generalize AA.take at_ ++ (vb, db) :: (AA.drop at_ ++ [(V.non, PyData.none)]) = AB at lA2 fb hEl ⊢
    have j7 := same_up (o := .lst (AB.map (·.1))) n7
    have k7 : upd J6 p7 (.lst (AB.map (·.1))) p7 = _ := upd_same
    generalize upd J6 p7 (.lst (AB.map (·.1))) = J7 at j7 k7 ⊢
    have j07 := (((j03.trans j4).trans j5).trans j6).trans j7
    have b07 := b08.same j07
    have z11 := z10.same j07
    have me : PyData.int (at_ : Nat) ∈ oddE := int_odd (by omega) (by omega)
    refine seq_ifN (test_at ?_)
    refine ne_caught (v := .int (at_ : Nat)) (e := .int (at_ : Nat)) c.past me (t8.ext j07) (fun E1 H1 Q1 x1 r => ⟨_, rfl, mk_past (.inr ⟨p7, z, AB, rfl, .inl (past_lst (x1 _ _ k7 fun _ q => nomatch q)), src_lst (z11.ext x1), by omega, fun q hq => ⟨Dv.bn ((BN.of j07).trans (BN.ext x1)) _ _ _ (hEl q hq).1, (hEl q hq).2⟩, fun i eb => by rw [fb] at eb; cases eb; exact r, fun eb => by rw [fb] at eb; cases eb⟩)⟩)
      (fun H1 x1 => ⟨false, z, .int _⟩) (fun H1 Q1 x1 h => due_read me (fun k hk => ⟨_, rfl, hk _ H1 (Same.refl _) ⟨false, z, .int _⟩⟩) h) fun G9 x9 t9 => ⟨_, rfl, iteF ?_⟩
    have b09 := b07.trans (BN.ext x9)
    have z12 := z11.ext x9
    have hl9 : G9 l = some (.lst (AA.map (·.1))) := b09 _ _ nl (fun _ q => nomatch q) hl
    refine seq_ifN ⟨_, rfl, by show 0 ≤ sizeLine; decide, fun e7 ne7 => ?_⟩
    have y7 := same_up (o := .lst []) ne7
    have g7 : upd G9 e7 (.lst []) e7 = some (.lst []) := upd_same
    generalize upd G9 e7 (.lst []) = GA at y7 g7 ⊢
    have b0A := b09.same y7
    have zA := z12.same y7
    have tA := t9.ext y7
    have hlA := y7 _ _ hl9
    have dpA : ∀ {B : List (V × PyData)}, (∀ q ∈ B, Eld z GA q) → DpAll K GA (B.map (·.1)) (B.map (·.2)) := fun {B} h => by
      induction B with
      | nil => exact .nil
      | cons q B ih => exact .cons (Dv.dp _ _ _ ((h q List.mem_cons_self).1 false)) (ih fun r m => h r (List.mem_cons_of_mem _ m))
    have hEA : ∀ q ∈ AA, Eld z GA q := fun q hq => (hE q hq).bn b0A
    refine ⟨_, _, .lst (SqL.of hlA) (dpA hEA), .lst (SqL.of g7) .nil, shaped_all fun d hd => ?_, by rfl, _, rfl, ?_⟩
    · obtain ⟨q, hq, rfl⟩ := List.mem_map.mp hd
      exact bd_okL (hE q hq).2.1 (hE q hq).2.2 (by decide)
    rw [eqv_nilD]
    refine ite2 (fun _ => q GA b0A zA tA) fun e => ?_
    have nn : AA.map (·.1) ≠ [] := fun h => e (decide_eq_true (by
      have := congrArg List.length h; skip
      rw [List.length_map] at this ⊢
      exact this))
    obtain ⟨v9, hv9, hat⟩ := atI_back (r := (at_ : Int)) nn (by omega) (by rw [List.length_map]; omega)
    obtain ⟨⟨v9', d9⟩, m9, ev⟩ := List.mem_map.mp hv9
    have ev : v9' = v9 := ev
    subst ev
    have el9 := hEA _ m9
    obtain ⟨a', vs', ev, ht⟩ := deed_head el9.2.1 (el9.1 false)
    have ev : v9' = .ref a' := ev
    subst ev
    have mi := mom_in el9.2.1
    refine seq_at ⟨_, rfl, _, rfl, _, rfl, _, _, rfl, rfl, l, _, _, _, rfl, rfl, SqL.of hlA, hat, a', _, _, .int (momD d9), rfl, rfl, ht.sq, atI_nat (j := 0) rfl, by show 3 ≤ sizeLine; decide, fun t o nt ho => ⟨by show 1 ≤ sizeLine; decide, fun kk nk => ?_⟩⟩
    have elT := mk_strike zA nt ho (k := 0) mi.1 mi.2 (by decide) (by decide)
    have yt := same_up (o := .frz o (.tup [V.int (momD d9), .str "strike", .int 0])) nt
    generalize upd GA t (.frz o (.tup [V.int (momD d9), .str "strike", .int 0])) = GB at yt elT nk ⊢
    have yk := same_up (o := .lst [V.ref t]) nk
    have gk : upd GB kk (.lst [V.ref t]) kk = _ := upd_same
    generalize upd GB kk (.lst [V.ref t]) = GC at yk gk ⊢
    refine ⟨l, kk, _, _, rfl, rfl, (yt.trans yk) _ _ hlA, gk, sz1000 (by rw [List.length_map, List.length_singleton]; omega), fun k2' nk2 => ?_⟩
    have yl := same_up (o := .lst (AA.map (·.1) ++ [V.ref t])) nk2
    have gl : upd GC k2' (.lst (AA.map (·.1) ++ [V.ref t])) k2' = _ := upd_same
    generalize upd GC k2' (.lst (AA.map (·.1) ++ [V.ref t])) = GD at yl gl ⊢
    have yAD := (yt.trans yk).trans yl
    have b0D := b0A.same yAD
    have zD := zA.same yAD
    have tD := tA.ext yAD
    have hlD := yAD _ _ hlA
    have fb2 : firstBad [] 0 ((AA ++ [(V.ref t, PyData.tuple [.int (momD d9), .str "strike", .int 0])]).map (·.2)) = some AA.length := by
      have hbb := bad_at (ds := AA.map (·.2)) (e := PyData.tuple [.int (momD d9), .str "strike", .int 0]) (r := []) (seen := []) (i := 0) (fun d hd => by
          obtain ⟨q, hq, rfl⟩ := List.mem_map.mp hd; skip
          exact (hE q hq).2.1) (by
          rw [List.nil_append]
          exact nd) (by
          intro h
          refine h.2 ?_
          rw [List.nil_append]
          exact List.mem_map.mpr ⟨d9, List.mem_map.mpr ⟨_, m9, rfl⟩, rfl⟩)
      rw [List.map_append, List.map_singleton, hbb, List.length_map]
      congr 1
      omega
    have me2 : PyData.int (((AA.map (·.1)).length : Nat) : Int) ∈ oddE := int_odd (by omega) (by rw [List.length_map]; omega)
    refine ret_at ?_
    refine eq_caught (v := .int ((AA.map (·.1)).length : Nat)) (e := .int ((AA.map (·.1)).length : Nat)) c.past me2 tD (fun E1 H1 Q1 x1 r => ⟨_, rfl, k2', _, rfl, .inl ⟨SqL.of (x1 _ _ gl fun _ q => nomatch q), fun t2 nt2 => ?_⟩⟩)
      (fun H1 x1 => ⟨false, z, .int _⟩) (fun H1 Q1 x1 h => due_read me2 (fun k hk => ⟨_, rfl, l, _, rfl, .inl (SqL.of (x1 _ _ hlD fun _ q => nomatch q)), hk _ H1 (Same.refl _) ⟨false, z, .int _⟩⟩) h) fun G12 x12 t12 => ?_
    · have y2 := same_up (o := .tup (AA.map (·.1) ++ [V.ref t])) nt2
      have g2 : upd H1 t2 (.tup (AA.map (·.1) ++ [V.ref t])) t2 = some (.tup (AA.map (·.1) ++ [V.ref t])) := upd_same
      generalize upd H1 t2 (.tup (AA.map (·.1) ++ [V.ref t])) = H2 at y2 g2 ⊢
      refine nil_at ?_
      refine mk_past (.inr ⟨t2, z, AA ++ [(V.ref t, PyData.tuple [.int (momD d9), .str "strike", .int 0])], rfl, .inr fun G s => ?_, src_lst ((zD.ext x1).same y2), ?_, fun q hq => ?_, fun i eb => ?_, fun eb => ?_⟩)
      · rw [List.map_append]
        exact ⟨.base (.tup (s _ _ g2)), .inl (.inl (s _ _ g2))⟩
      · rw [List.length_append, List.length_singleton]; skip
        omega
      · rcases List.mem_append.mp hq with h | h
        · exact ((((hEA q h).bn (BN.of yAD)).bn (BN.ext x1)).bn (BN.of y2)).el
        · rw [List.mem_singleton.mp h]
          exact ((((elT.bn (BN.of (yk.trans yl))).bn (BN.ext x1)).bn (BN.of y2))).el
      · rw [fb2] at eb
        cases eb
        have r' : Rais c.p (.int ((AA.map (·.1)).length : Nat)) H1 E1 := r
        rw [List.length_map] at r'
        exact r'.same y2
      · rw [fb2] at eb
        cases eb
    · exact q G12 (b0D.trans (BN.ext x12)) (zD.ext x12) t12
end
end Pl

namespace Pl
open L2 PySem PySem.Spec PyProof.Rows
abbrev sFull : Stmt := top 52
abbrev lamU : Str := (envOfC "_law_full_right" (defScope sFull) 0 0 (.ref 0)).qual ++ "<lambda>"
abbrev nFu : List Str := ["_law_full", "_law_many", "_law_k"]
/-- Past() -/
structure Mk0P (P : Program) (w : World) (K : PySem.W.Frag) (mg : Str → Option Value) (base : Heap) (C CP CT : Addr) : Prop where
  ex : ∃ (f : Addr) (fd : FuncData) (a0 : Addr) (ds : List Value), Mk K C f ∧ FnOk P w K mg base (L2.CX P w) 10 f fd ["self", "deeds"] (spPInit K C CP CT) ∧ mg "Past" = some (.ref C) ∧ Binds K fd ["self", "deeds"] ds ∧ Vals [V.ref a0] ds ∧ ∀ G, TyX K G (.ref a0) (.type "tuple") ∧ SqT K G a0 []
def mD (k : Nat) : PyData := .tuple [.int (3 * (k : Int) + 1), .str "strike", .int ((k : Int) % 10)]
theorem mD_mom (k : Nat) : momD (mD k) = 3 * (k : Int) + 1 := rfl
theorem mD_ord (k : Nat) : inOrd (mD k) = mD k := if_neg (show ¬ word (mD k) = "put" from by
  show ¬ (("strike" : Str) = "put")
  decide)
theorem mD_up (n : Nat) : UpD ((List.range n).map mD) := List.pairwise_map.mpr (List.pairwise_lt_range.imp fun h => by
  rw [mD_mom, mD_mom]
  omega)
theorem mD_srt (n : Nat) : srtD (((List.range n).map mD).map inOrd) = (List.range n).map mD := by
  have e : ((List.range n).map mD).map inOrd = (List.range n).map mD := by
    rw [List.map_map]
    exact List.map_congr_left fun k _ => mD_ord k
  rw [e, srtD_of (mD_up n)]
theorem ne_lst {z p : Addr} {H : Hp} (hz : ∃ ys, H z = some (.lst ys)) (hp : H p = none) : p ≠ z := by
  obtain ⟨o, h⟩ := hz
  exact (ne_of_none h hp).symm
theorem mk_strikeL {z t : Addr} {G : Hp} {o : Obj} {mo k : Int} (hz : ∃ ys, G z = some (.lst ys)) (nt : G t = none) (ho : o.dict = none) (a : 1 ≤ mo) (b : mo ≤ 999) (c : 0 ≤ k) (d : k ≤ 9) : Eld z (upd G t (.frz o (.tup [.int mo, .str "strike", .int k]))) (.ref t, .tuple [.int mo, .str "strike", .int k]) :=
  ⟨fun m => .tup (ne_lst hz nt) (.frz upd_same ho) (.cons (.int _) (.cons (.str _) (.cons (.int _) .nil))), deed_strike a b c d, bd_strike a b c d⟩
/-- Past(v) for the instance x -/
def PastArgX (K : PySem.W.Frag) (C CP CT x : Addr) (v : V) (H : Hp) (Q : VK) (E : XK) : Prop :=
  (∃ kd : String, (∀ G, Same H G → TyX K G v (.type kd)) ∧ PySem.W.kitAny K (.type kd) [.type "list", .type "tuple"] = some false ∧ Rais CP .non H E) ∨
   ∃ (a z : Addr) (A : List (V × PyData)), v = .ref a ∧ ((∀ G, Same H G → TyX K G (.ref a) (.type "list") ∧ SqL K G a (A.map (·.1))) ∨ ∀ G, Same H G → TyX K G (.ref a) (.type "tuple") ∧ SqT K G a (A.map (·.1))) ∧ (∃ ys, H z = some (.lst ys)) ∧ A.length ≤ 61 ∧ (∀ q ∈ A, El z H q) ∧
    (∀ i, firstBad [] 0 (A.map (·.2)) = some i → Rais CP (.int i) H E) ∧
    (firstBad [] 0 (A.map (·.2)) = none → (60 < A.length → RaisO CT (.int 60) H E) ∧
      (A.length ≤ 60 → ∀ (L : List RowD) G, Same H G → NewM C H G x → PastAt C z G x L → L.map (·.1) = (A.map (·.2)).map momD → L.map rd = (A.map (·.2)).map inOrd → Q .non G))
theorem mk_px {K : PySem.W.Frag} {C CP CT x dx : Addr} {v : V} {H : Hp} {Q : VK} {E : XK} (hx : H x = none) (hd : H dx = none) (ne : dx ≠ x) (h : PastArgX K C CP CT x v H Q E) : spPInit K C CP CT (.ref x :: ([v] ++ [])) (upd (upd H dx (.own x)) x (.ins C dx [])) Q E := by
  have s1 : Same H (upd (upd H dx (.own x)) x (.ins C dx [])) := fun b o hb => by
    rw [upd_ne (ne_of_none hb hx), upd_ne (ne_of_none hb hd)]
    exact hb
  refine ⟨x, dx, v, rfl, upd_same, ?_⟩
  rcases h with ⟨kd, ty, no, r⟩ | ⟨a, z, A, rfl, hA, ⟨ys, hz⟩, lA, hEl, bad, good⟩
  · exact .inl ⟨kd, fun G s => ty G (s1.trans s), no, r.same s1⟩
  · refine .inr ⟨a, z, A, rfl, ?_, (ne_of_none hz hx), ⟨ys, s1 _ _ hz⟩, lA, fun q hq => (hEl q hq).same s1, fun i e => (bad i e).same s1, fun e => ⟨fun l => ((good e).1 l).same s1, fun l L G bx nm pa e1 e2 => (good e).2 l L G (fun b o hb => bx b o (ne_of_none hb hx) (s1 _ _ hb)) (by
      obtain ⟨dx', pm, pd, h1, h2⟩ := nm
      exact ⟨dx', pm, pd, h1, none_back s1 h2⟩) pa e1 e2⟩⟩
    rcases hA with h | h
    · exact .inl fun G s => h G (s1.trans s)
    · exact .inr fun G s => h G (s1.trans s)
theorem arg_goodX {K : PySem.W.Frag} {C CP CT x z a : Addr} {H : Hp} {Q : VK} {E : XK} {A : List (V × PyData)} (hA : (∀ G, Same H G → TyX K G (.ref a) (.type "list") ∧ SqL K G a (A.map (·.1))) ∨ ∀ G, Same H G → TyX K G (.ref a) (.type "tuple") ∧ SqT K G a (A.map (·.1))) (hz : ∃ ys, H z = some (.lst ys)) (l : A.length ≤ 60) (hE : ∀ q ∈ A, Eld z H q) (nd : ((A.map (·.2)).map momD).Nodup)
    (q : ∀ G, Same H G → PV C z G x (srtD ((A.map (·.2)).map inOrd)) → Q .non G) : PastArgX K C CP CT x (.ref a) H Q E := by
  have gg := good_rows (ds := A.map (·.2)) (seen := []) (i := 0) (fun d hd => by
    obtain ⟨q, hq, rfl⟩ := List.mem_map.mp hd; skip
    exact (hE q hq).2.1) (by rw [List.nil_append]; exact nd)
  refine .inr ⟨a, z, A, rfl, hA, hz, by omega, fun q hq => (hE q hq).el, fun i e => ?_, fun _ => ⟨fun f => by omega, fun _ L G s _ pa e1 e2 => q G s (pv_of pa e2)⟩⟩
  rw [gg] at e
  cases e
theorem one_at {v : V} {σ : L2.St} {H : Hp} {Q : List V → Hp → Prop} (h : Q [v] H) : tCons (tC v) tNil σ H Q := h
theorem Eld.off {z D : Addr} {H : Hp} {q : V × PyData} {ys : List V} {o : HO} (h : Eld z H q) (hD : H D = some (.lst ys)) : Eld z (upd H D o) q := by
  obtain ⟨a, b⟩ := Dv.off (o := o) hD false _ _ (h.1 true) (h.1 false)
  refine ⟨fun m => ?_, h.2⟩
  cases m
  · exact b
  · exact a
theorem words_read {w x : Str} {e : PyData} {σ : L2.St} {H1 : Hp} {Q' : VK} (hx : x = e.shown) (h : ∀ p2 G2, Same H1 G2 → G2 p2 = some (outL w e) → Q' (.ref p2) G2) : tLst (tCons (tC (V.str w)) (tCons (tC (V.str x)) tNil)) σ H1 Q' := by
  subst hx
  exact ⟨by show 2 ≤ sizeLine; decide, fun p2 hp2 => h p2 _ (same_up hp2) upd_same⟩
theorem z_ext {z : Addr} {H G : Hp} (x : LamX.ExtN H G) (h : ∃ ys, H z = some (HO.lst ys)) : ∃ ys, G z = some (HO.lst ys) := by
  obtain ⟨ys, h⟩ := h
  exact ⟨ys, x _ _ h fun _ q => nomatch q⟩
theorem z_same {z : Addr} {H G : Hp} (x : Same H G) (h : ∃ ys, H z = some (HO.lst ys)) : ∃ ys, G z = some (HO.lst ys) := z_ext (LamX.ExtN.of x) h
def spFull (Tb : TbL) : Sp := fun vs H Q _ => vs = [] ∧ (∃ z ys, H z = some (.lst ys)) ∧ LamX.Tabs Tb H ∧ ∀ G, Q (.bl true) G
section
variable {P : Program} {w : World} {K : PySem.W.Frag} {mg : Str → Option Value} {base : Heap} {C : Addr} {c : Fo} {cd Pt : Addr} {Tb : TbL}
theorem scFull : FnScope nFu [] (defScope sFull) := ⟨rfl, rfl, rfl, by decide +kernel, rfl, by decide +kernel, by decide +kernel⟩
theorem ok_full {f gT : Addr} {fd fdT : FuncData} (F : FunC K "_law_full_right" "_law_full_right" sFull f cd fd) (T : Cst K mg) (T2 : Cs2 mg) (S : Tri K mg c) (TB : LamX.TabB base mg cd Pt) (hmT : (Pt, lamU) ∈ Tb) (huT : ∀ p ∈ Tb, p.1 = Pt → p.2 = lamU) (FT : Fun K "_law_caught" "_law_caught" sCaught gT fdT) (mT : mg "_law_caught" = some (.ref gT)) (bT : Binds K fdT ["_law_call"] [])
    (X : PsX P w K mg base C c.d c.m c.p c.t) (X0 : Mk0P P w K mg base C c.p c.t) : FnG P w K mg base 16 f fd [] (spFull Tb) := by
  obtain ⟨oc, od, kV, doc, pm, an, cdv, ct, osl, rfl, lT, hcT⟩ := FT.ex
  have kT := FT.kp
  obtain ⟨fN, fdN, mkN, GN, hN, bN⟩ := X.make.ex
  obtain ⟨fN0, fdN0, a0, ds0, mkN0, GN0, _, bN0, vN0, em0⟩ := X0.ex
  obtain ⟨fW, fdW, GW, meW, bW, _⟩ := X.wo.ex
  obtain ⟨fH, fdH, GH, meH, bH, _⟩ := X.wi.ex
  obtain ⟨fS, fdS, GS, meS, bS, _⟩ := X.d.ds.ex
  have pc := X.d.pc.cls
  refine okC F scFull (fun vs H Q E h => ?_) (fun A outer s H vs Q E hgd hr h => ?_)
  · rw [h.1]
    rfl
  · obtain ⟨rfl, ⟨z, hz⟩, hT, q⟩ := h
    have hu64 : (A.deeper (envOfC "_law_full_right" (defScope sFull) s.heap.objs.size f (.ref cd))).units + 64 < cLine := by
      have := hr.un
      omega
    have hun : (A.deeper (envOfC "_law_full_right" (defScope sFull) s.heap.objs.size f (.ref cd))).units + 128 < cLine := by
      have := hr.un
      omega
    refine ⟨_, pss_cons (ps_set (i := 1) scFull.nd rfl (Or.inr rfl) (pe_lc (own := [("_law_k", 2)]) (g := gName 2) (tt := tYes) rfl scFull.nd (pi_range1 (by rfl) T2.rng (pa_cons pe_int pa_nil)) (blkOk_by (own := [("_law_k", 2)]) (N := nFu) (sc := defScope sFull) (by decide +kernel))
        (fun _ _ _ _ _ => pg_name (i := 2) scFull.nd rfl (Or.inl rfl)) (fun _ _ _ _ _ => pts_nil) (fun _ _ _ _ _ => pe_tupF (pa_cons (pe_op op_add (pe_op op_mul pe_int (pv 2)) pe_int) (pa_cons pe_str (pa_cons (pe_op op_mod (pv 2) pe_int) pa_nil))))))
      (pss_cons (ps_set (i := 0) scFull.nd rfl (Or.inr rfl) (pe_make (E := fun _ _ _ => False) mkN GN (hr.mono (by decide)) (by rfl) hN bN .nil (passes_call takes0 fun _ _ _ _ h => h) (pa_cons (pe_slice sl_list (pv 1) po_none (po_some pe_int)) pa_nil)))
      (pss_cons (ps_if (PW.pt (pw_or (pt_cmpR op_ne (pe_callB (cr_lenO (X.d.le.dun (E := E0) pass0) (hr.mono (by decide))) (by rfl) T.len PySem.boot_len (pa_cons (pv 0) pa_nil)) pe_int (nomark _))
          (pw_or1 (pt_cmpR (op_neD hu64) (LamX.pe_lamcall (x := "_law_caught") (a := "_law_call") (T := Tb) (TT := TTr c) (k := 12) (by rfl) mT kT lT hcT bT scTried rfl (Or.inl rfl) (tried_gives hgd hun T2 S) TB rfl hmT huT (hr.mono (by decide)) (show LamX.LamS (defScope sFull) _ from LamX.lamS_by (by decide +kernel)) rfl (fun _ _ _ _ _ => rfl)
            (fun A outer s H E f c' hr2 => pe_make (E := E) mkN GN (hr2.mono (by decide)) (by rfl) hN bN .nil (passes_call (takes_of rfl rfl rfl rfl) fun _ _ _ _ h => h) (pa_cons (pv 1) pa_nil)))
            (pe_lst (pa_cons pe_str (pa_cons pe_str pa_nil))) (nomark _))))) (pss_one (ps_ret pe_bl)) pss_nil)
      (pss_cons (ps_if (pt_cmpR (op_neD hu64) (LamX.pe_lamcall (x := "_law_caught") (a := "_law_call") (T := Tb) (TT := TTr c) (k := 12) (by rfl) mT kT lT hcT bT scTried rfl (Or.inl rfl) (tried_gives hgd hun T2 S) TB rfl hmT huT (hr.mono (by decide)) (show LamX.LamS (defScope sFull) _ from LamX.lamS_by (by decide +kernel)) rfl (fun _ _ _ _ _ => rfl)
            (fun A outer s H E f c' hr2 => pe_meth (pv 0) pc meH GH (hr2.mono (by decide)) bH .nil (passes_call (takes_of rfl rfl rfl rfl) fun _ _ _ _ h => h) (pa_cons (pe_ix (show IxR _ (rIxL K) from ix_list) (pv 1) pe_int (fun _ _ => rfl)) pa_nil)))
            (pe_lst (pa_cons pe_str (pa_cons pe_str pa_nil))) (nomark _)) (pss_one (ps_ret pe_bl)) pss_nil)
      (pss_cons (ps_if (pt_cmpR (op_neD hu64) (LamX.pe_lamcall (x := "_law_caught") (a := "_law_call") (T := Tb) (TT := TTr c) (k := 12) (by rfl) mT kT lT hcT bT scTried rfl (Or.inl rfl) (tried_gives hgd hun T2 S) TB rfl hmT huT (hr.mono (by decide)) (show LamX.LamS (defScope sFull) _ from LamX.lamS_by (by decide +kernel)) rfl (fun _ _ _ _ _ => rfl)
            (fun A outer s H E f c' hr2 => pe_meth (pv 0) pc meH GH (hr2.mono (by decide)) bH .nil (passes_call (takes_of rfl rfl rfl rfl) fun _ _ _ _ h => h) (pa_cons (pe_tupF (pa_cons pe_int (pa_cons pe_str (pa_cons pe_int pa_nil)))) pa_nil)))
            (pe_lst (pa_cons pe_str (pa_cons pe_str pa_nil))) (nomark _)) (pss_one (ps_ret pe_bl)) pss_nil)
      (pss_one (ps_ret (pe_and (pe_cmpR op_eq (pe_callB (cr_lenO (X.d.le.dun (E := E0) pass0) (hr.mono (by decide))) (by rfl) T.len PySem.boot_len (pa_cons (pe_meth (E := fun _ _ _ => False) (pv 0) pc meW GW (hr.mono (by decide)) bW .nil (passes_call takes0 fun _ _ _ _ h => h) (pa_cons pe_int pa_nil)) pa_nil)) pe_int (nomark _))
        (pe_and (pe_cmpR (op_eqO (X.eq.dun (E := E0) pass0) (hr.mono (by decide))) (pe_make0 (E := fun _ _ _ => False) mkN0 GN0 (hr.mono (by decide)) (by rfl) hN bN0 vN0 (passes_call takes0 fun _ _ _ _ h => h)) (pe_make (E := fun _ _ _ => False) mkN GN (hr.mono (by decide)) (by rfl) hN bN .nil (passes_call takes0 fun _ _ _ _ h => h) (pa_cons (pe_lst pa_nil) pa_nil)) (nomark _))
        (pe_one (pe_cmpR (op_eqD hu64) (pe_meth0 (pe_make (E := fun _ _ _ => False) mkN GN (hr.mono (by decide)) (by rfl) hN bN .nil (passes_call takes0 fun _ _ _ _ h => h) (pa_cons (pe_tup pa_nil) pa_nil)) pc meS GS (hr.mono (by decide)) bS .nil pass0) (pe_lst pa_nil) (nomark _))))))))))), ?_⟩
    refine seq_at ⟨61, rfl, by decide, by decide, fun D hD => lc_range (n := 61) (fun i F => Same H F ∧ ∃ A : List (V × PyData), F D = some (.lst (A.map (·.1))) ∧ A.map (·.2) = (List.range i).map mD ∧ ∀ q ∈ A, Eld z F q) ⟨same_up hD, [], upd_same, by simp, fun q h => by cases h⟩ ?_ ?_⟩
    · rintro i F hi ⟨sF, B, hB, eB, mB⟩
      have lB : B.length = i := by
        have := congrArg List.length eB
        rwa [List.length_map, List.length_map, List.length_range] at this
      refine ⟨rfl, yesT ⟨_, rfl, _, _, rfl, rfl, Or.inl (by decide), _, _, rfl, rfl, _, rfl, _, _, rfl, rfl, (by show (0 : Int) < 10; decide), by show 3 ≤ sizeLine; decide, fun t o nt ho => ?_⟩⟩
      have hz1 := z_same sF hz
      have el := mk_strikeL (mo := 3 * (0 + (i : Int)) + 1) (k := (0 + (i : Int)) % 10) hz1 nt ho (by omega) (by omega) (by omega) (by omega)
      have yt := same_up (o := .frz o (.tup [V.int (3 * (0 + (i : Int)) + 1), .str "strike", .int ((0 + (i : Int)) % 10)])) nt
      have hBt := yt _ _ hB
      refine ⟨_, hBt, ?_, sup hD (sF.trans yt), B ++ [(.ref t, mD i)], ?_, ?_, fun q hq => ?_⟩
      · rw [List.length_map]
        exact small1000 (by omega)
      · rw [upd_same, List.map_append]
        rfl
      · rw [List.map_append, eB, List.range_succ, List.map_append]
        rfl
      · have eD : PyData.tuple [.int (3 * (0 + (i : Int)) + 1), .str "strike", .int ((0 + (i : Int)) % 10)] = mD i := by
          rw [Int.zero_add]
          rfl
        rw [eD] at el
        rcases List.mem_append.mp hq with h | h
        · exact ((mB q h).bn (BN.of yt)).off hBt
        · rw [List.mem_singleton.mp h]
          exact el.off hBt
    rintro G1 ⟨s1, B, hB, eB, mB⟩
    have z1 := z_same s1 hz
    have t1 := hT.ext s1
    have lB : B.length = 61 := by
      have := congrArg List.length eB
      rwa [List.length_map, List.length_map, List.length_range] at this
    refine seq_at ⟨_, rfl, 60, rfl, D, B.map (·.1), rfl, SqL.of hB, fun p1 n1 => ?_⟩
    rw [cut_take _ (by decide), show (60 : Int).toNat = 60 from rfl, ← List.map_take]
    have y1 := same_up (o := .lst ((B.take 60).map (·.1))) n1
    have g1 : upd G1 p1 (.lst ((B.take 60).map (·.1))) p1 = _ := upd_same
    generalize upd G1 p1 (.lst ((B.take 60).map (·.1))) = K1 at y1 g1 ⊢
    have e60 : (B.take 60).map (·.2) = (List.range 60).map mD := by
      rw [List.map_take, eB]
      rfl
    refine nil_at ?_
    intro x dx0 nx hdx0 nex
    refine mk_px nx hdx0 nex (arg_goodX (z := z) (A := B.take 60) (.inl (past_lst g1)) (z_same y1 z1) ?_ (fun q hq => (mB q (List.mem_of_mem_take hq)).bn (BN.of y1)) (by rw [e60]; exact up_nodup (mD_up 60)) fun G2 s2 px => ⟨rfl, ?_⟩)
    · rw [List.length_take]
      omega
    rw [e60, mD_srt] at px
    have s12 := y1.trans s2
    have z2 := z_same s12 z1
    have t2 := t1.ext s12
    have hB2 := s12 _ _ hB
    have mB2 : ∀ q ∈ B, Eld z G2 q := fun q hq => (mB q hq).bn (BN.of s12)
    obtain ⟨dx, fs, hi, l1, l2, lwi, lwo⟩ := id px.ins
    have l60 : ((List.range 60).map mD).length = 60 := by rw [List.length_map, List.length_range]
    have gg := good_rows (ds := B.map (·.2)) (seen := []) (i := 0) (fun d hd => by
      obtain ⟨q, hq, rfl⟩ := List.mem_map.mp hd; skip
      exact (mB q hq).2.1) (by rw [List.nil_append, eB]; exact up_nodup (mD_up 61))
    generalize hd60 : (List.range 60).map mD = d60 at px l60
    refine seq_ifN ⟨_, rfl, x, dx, fs, rfl, hi, pv_len (E := E0) px ⟨_, rfl, by omega, by omega, rfl, _, rfl, ?_⟩⟩
    rw [l60]
    refine ite2 (fun e => absurd e (by decide)) fun _ => ?_
    refine test_at ?_
    have me60 : PyData.int 60 ∈ oddE := int_odd (by decide) (by decide)
    refine ne_caught (v := .int 60) (e := .int 60) c.many me60 t2 (fun E1 H1 Q1 x1 r => ⟨_, rfl, mk_past (.inr ⟨D, z, B, rfl, .inl (past_lst (x1 _ _ hB2 fun _ q => nomatch q)), z_ext x1 z2, by omega, fun q hq => ((mB2 q hq).bn (BN.ext x1)).el, (fun i eb => by
        rw [gg] at eb
        cases eb), fun _ => ⟨fun _ => r, fun l => by omega⟩⟩)⟩)
      (fun H1 x1 => ⟨false, z, .int _⟩) (fun H1 Q1 x1 h => words_read (by rfl) h) fun G3 x3 t3 => ⟨_, rfl, iteF ?_⟩
    obtain ⟨q60, hq60, e61⟩ : ∃ q, B[60]? = some q ∧ q.2 = mD 60 := by
      have h60 : 60 < B.length := by omega
      refine ⟨B[60], List.getElem?_eq_getElem h60, ?_⟩
      have h := congrArg (fun l => l[60]?) eB
      simp only [List.getElem?_map] at h
      rw [List.getElem?_eq_getElem h60] at h
      exact Option.some.inj h
    have m60 := List.mem_of_getElem? hq60
    have z3 := z_ext x3 z2
    refine seq_ifN (test_at ?_)
    refine ne_caught (v := .int 60) (e := .int 60) c.many me60 t3 (fun E1 H1 Q1 x1 r => ⟨_, rfl, x, dx, fs, rfl, (x3.trans x1) _ _ hi (fun _ q => nomatch q), lwi, _, rfl, D, B.map (·.1), _, q60.1, rfl, rfl, SqL.of ((x3.trans x1) _ _ hB2 fun _ q => nomatch q), atI_nat (j := 60) (by rw [List.getElem?_map, hq60]; rfl), ?_⟩)
      (fun H1 x1 => ⟨false, z, .int _⟩) (fun H1 Q1 x1 h => words_read (by rfl) h) fun G4 x4 t4 => ⟨_, rfl, iteF ?_⟩
    · refine nil_at ?_
      refine pv_with_full (d := mD 60) (px.bn (BN.ext (x3.trans x1))) (z_ext x1 z3) ?_ ?_ l60 r
      · rw [← e61]
        exact (mB2 q60 m60).bn (BN.ext (x3.trans x1))
      · rw [← hd60, List.map_map]
        intro h
        obtain ⟨k, hk, e⟩ := List.mem_map.mp h
        have e : 3 * (k : Int) + 1 = 3 * ((60 : Nat) : Int) + 1 := e
        have := List.mem_range.mp hk
        omega
    have x24 := x3.trans x4
    have z4 := z_ext x4 z3
    have px4 := px.bn (BN.ext x24)
    have hi4 := x24 _ _ hi (fun _ q => nomatch q)
    have me1 : PyData.int 1 ∈ oddE := int_odd (by decide) (by decide)
    have in0 : mD 0 ∈ d60 := by
      rw [← hd60]
      exact List.mem_map.mpr ⟨0, by simp, rfl⟩
    refine seq_ifN (test_at ?_)
    refine ne_caught (v := .int 1) (e := .int 1) c.moment me1 t4 (fun E1 H1 Q1 x1 r => ⟨_, rfl, x, dx, fs, rfl, x1 _ _ hi4 (fun _ q => nomatch q), lwi, by show 3 ≤ sizeLine; decide, fun t o nt ho => ?_⟩)
      (fun H1 x1 => ⟨false, z, .int _⟩) (fun H1 Q1 x1 h => words_read (by rfl) h) fun G5 x5 t5 => ⟨_, rfl, iteF ?_⟩
    · have yt := same_up (o := .frz o (.tup [V.int 1, .str "strike", .int 9])) nt
      refine nil_at ?_
      exact pv_with_twice (d := .tuple [.int 1, .str "strike", .int 9]) ((px4.bn (BN.ext x1)).same yt) (z_same yt (z_ext x1 z4)) (mk_strikeL (z_ext x1 z4) nt ho (by decide) (by decide) (by decide) (by decide)) (List.mem_map.mpr ⟨mD 0, in0, rfl⟩) (Rais.same r yt)
    have z5 := z_ext x5 z4
    have px5 := px4.bn (BN.ext x5)
    have hi5 := x5 _ _ hi4 (fun _ q => nomatch q)
    have opm := out_perm px5.up in0
    have lo : (outD d60 (momD (mD 0))).length = 59 := by
      have := opm.length_eq
      rw [List.length_append, List.length_singleton, l60] at this
      omega
    refine ret_at ?_
    refine ⟨_, rfl, x, dx, fs, rfl, hi5, lwo, ?_⟩
    refine one_at ?_
    refine pv_wo (d := mD 0) px5 z5 in0 fun y G6 s6 ny py => ?_
    obtain ⟨dy, fy, hy, _⟩ := id py.ins
    refine ⟨y, dy, fy, rfl, hy, pv_len (E := E0) py ⟨_, rfl, by omega, by omega, rfl, ?_⟩⟩
    rw [lo]
    refine ⟨_, rfl, iteT ?_⟩
    have z6 := z_same s6 z5
    intro x7 dx7 n7 hdx7 nex7
    refine mk_px n7 hdx7 nex7 (arg_goodX (z := z) (A := []) (.inr fun G _ => em0 G) z6 (by decide) (fun q h => by cases h) (by simp) fun G7 s7 p7 => ⟨rfl, by show 0 ≤ sizeLine; decide, fun e8 ne8 => ?_⟩)
    have y8 := same_up (o := .lst []) ne8
    have g8 : upd G7 e8 (.lst []) e8 = some (.lst []) := upd_same
    generalize upd G7 e8 (.lst []) = K8 at y8 g8 ⊢
    have z8 := z_same (s7.trans y8) z6
    refine nil_at ?_
    intro x9 dx9 n9 hdx9 nex9
    refine mk_px n9 hdx9 nex9 (arg_goodX (z := z) (A := []) (.inl (past_lst g8)) z8 (by decide) (fun q h => by cases h) (by simp) fun G9 s9 p9 => ⟨rfl, ?_⟩)
    have p79 := p7.same (y8.trans s9)
    obtain ⟨d7, f7, h7, _⟩ := id p79.ins
    refine ⟨x7, d7, f7, .ref C, rfl, h7, p9.ty X.ic, X.nf, pv_eq_t p79 p9 ⟨true, rfl, _, rfl, ?_⟩⟩
    refine ite2 (fun _ => ?_) fun e => absurd rfl e
    have z9 := z_same s9 z8
    refine ⟨by show 0 ≤ sizeLine; decide, fun e10 ne10 => ?_⟩
    have y10 := same_up (o := .tup []) ne10
    have g10 : upd G9 e10 (.tup []) e10 = some (.tup []) := upd_same
    generalize upd G9 e10 (.tup []) = K10 at y10 g10 ⊢
    refine nil_at ?_
    intro x11 dx11 n11 hdx11 nex11
    refine mk_px n11 hdx11 nex11 (arg_goodX (z := z) (A := []) (.inr fun G s => ⟨.base (.tup (s _ _ g10)), .inl (.inl (s _ _ g10))⟩) (z_same y10 z9) (by decide) (fun q h => by cases h) (by simp) fun G11 s11 p11 => ⟨rfl, ?_⟩)
    obtain ⟨d11, f11, h11, l11, _⟩ := id p11.ins
    have z11 := z_same (y10.trans s11) z9
    refine ⟨x11, d11, f11, rfl, h11, l11, ?_⟩
    refine nil_at ?_
    refine pv_deeds (E := E0) p11 (by
      obtain ⟨ys, h⟩ := z11
      exact ⟨_, h⟩) fun u G12 s12 n12 du => ⟨by show 0 ≤ sizeLine; decide, fun e13 ne13 => ⟨_, _, Dv.dp _ _ _ (du.same (same_up ne13)).dv, .lst (SqL.of upd_same) .nil, du.shaped, by rfl, ?_⟩⟩
    rw [eqv_nilD, show decide ((srtD (List.map inOrd (List.map (fun x : V × PyData => x.snd) []))).length = 0) = true from decide_eq_true (by simp [srtD])]
    exact q _
end
end Pl

namespace Pl
open L2 PySem PySem.Spec PyProof.Rows
abbrev sLaw : Stmt := top 53
abbrev nLw : List Str := ["_law_script", "_law_k", "_law_source", "_law_deeds_here", "_law_due", "_law_handed", "_law_past"]
theorem pe_callG0 {X : Cx} {k : Nat} {f : Addr} {fd : FuncData} {sp : Sp} {x : Str} {p pos : Pos} (F : FnG X.prog X.w X.K X.mg X.base k f fd [] sp) (hgd : X.A.guards = some []) (hr : Room k X.A) (hg : Gl X x) (hm : X.mg x = some (.ref f)) (hk : PySem.W.keepIn X.K (.ref f) = true) (hb : Binds X.K fd [] [])
    (hdb : ((x == ("__debug__" : Str)) = false) := by decide) : PE X (.Call (.Name x p) [] [] pos) (fun _ H Q => sp [] H Q (fun _ _ _ => True)) := by
  refine ⟨fun pins s σ H Q I h => ?_⟩; skip
  refine wpAny_Call_Name_kw (ld_glob I hg hm ?_ hdb); skip
  refine PySem.W.callWith_K0 I.kIn hk ?_
  have b := hb s [] I.kIn rfl
  refine wpAny_call (codeAny_mono (F.run X.A X.stack s H ⟨[], []⟩ [] [] Q _ hgd hr I.env0 b .nil h) ?_)
  intro r s2 hq
  match r, hq with
  | .error _, hq => exact False.elim hq
  | .ok (.ret u), hq => exact I.after hq
  | .ok .next, hq => exact False.elim hq
  | .ok .brk, hq => exact False.elim hq
  | .ok .cont, hq => exact False.elim hq
theorem seq_mk {te : TE} {u : TS} {D : Ends} {σ : L2.St} {H : Hp} {i : Nat} (Pf : V → Hp → Prop) (hu : ∀ v G, Pf v G → u D (σ.set i (some v)) G) (ht : ∀ k : VK, (∀ v G, Pf v G → k v G) → te σ H k) : tSeq (tAsg te (gName i)) u D σ H := ht _ hu
theorem seq_par {i j : Nat} {ta : TA} {u : TS} {D : Ends} {σ : L2.St} {H : Hp} (h : ta σ H fun vs H1 => ∃ a b, vs = [a, b] ∧ u D ((σ.set i (some a)).set j (some b)) H1) : tSeq (tPar i j ta) u D σ H := h
theorem seq_drop {te : TE} {u : TS} {D : Ends} {σ : L2.St} {H : Hp} (h : te σ H fun _ H1 => u D σ H1) : tSeq (tDrop te) u D σ H := h
theorem sql_ext {K : PySem.W.Frag} {H G : Hp} {a : Addr} {xs : List V} (e : LamX.ExtN H G) (h : SqL K H a xs) : SqL K G a xs := by
  rcases h with (h | ⟨o, h⟩) | h; skip
  · exact .inl (.inl (e _ _ h fun _ q => by cases q))
  · exact .inl (.inr ⟨o, e _ _ h fun _ q => by cases q⟩)
  · exact .inr h
theorem ext_bn {z : Addr} {H F : Hp} (hz : H z = none) (b : BN z H F) : LamX.ExtN H F := fun c o h n => b c o (ne_of_none h hz) n h
/-- a list that is none of its own changes -/
theorem PV.upd {C z h x : Addr} {H G : Hp} {ds : List PyData} {xs ys : List V} {o : HO} (a : PV C z G x ds) (nm : NewM C H G x) (h0 : H h = some (.lst xs)) (h1 : G h = some (.lst ys)) : PV C z (upd G h o) x ds := by
  obtain ⟨L, ⟨dx, pm, pd, e1, e2, e3, n1, n2, n3, hr, nd, l⟩, e⟩ := a
  obtain ⟨dx', pm', pd', f1, f2⟩ := nm
  rw [e1] at f1
  cases f1
  have x1 : x ≠ h := fun z => by rw [z, h1] at e1; cases e1
  have x2 : pm ≠ h := fun z => by rw [z, h0] at f2; cases f2
  have x3 : pd ≠ h := fun z => by rw [z, h1] at e3; cases e3
  exact ⟨L, ⟨dx, pm, pd, (upd_ne x1).trans e1, (upd_ne x2).trans e2, (upd_ne x3).trans e3, n1, n2, n3, fun r m => (hr r m).off h1, nd, l⟩, e⟩
theorem arg_N {K : PySem.W.Frag} {C CP CT x z a : Addr} {H : Hp} {Q : VK} {E : XK} {A : List (V × PyData)} (hA : (∀ G, Same H G → TyX K G (.ref a) (.type "list") ∧ SqL K G a (A.map (·.1))) ∨ ∀ G, Same H G → TyX K G (.ref a) (.type "tuple") ∧ SqT K G a (A.map (·.1))) (hz : ∃ ys, H z = some (.lst ys)) (l : A.length ≤ 60) (hE : ∀ q ∈ A, Eld z H q) (nd : ((A.map (·.2)).map momD).Nodup)
    (q : ∀ G, Same H G → NewM C H G x → PV C z G x (srtD ((A.map (·.2)).map inOrd)) → Q .non G) : PastArgX K C CP CT x (.ref a) H Q E := by
  have gg := good_rows (ds := A.map (·.2)) (seen := []) (i := 0) (fun d hd => by
    obtain ⟨q, hq, rfl⟩ := List.mem_map.mp hd; skip
    exact (hE q hq).2.1) (by rw [List.nil_append]; exact nd)
  refine .inr ⟨a, z, A, rfl, hA, hz, by omega, fun q hq => (hE q hq).el, fun i e => ?_, fun _ => ⟨fun f => by omega, fun _ L G s nm pa e1 e2 => q G s nm (pv_of pa e2)⟩⟩
  rw [gg] at e
  cases e
def spLaw (K : PySem.W.Frag) (Tb : TbL) : Sp := fun vs H Q _ => ∃ (a : Addr) (ns : List Int), vs = [.ref a] ∧ SqL K H a (ns.map V.int) ∧ LamX.Tabs Tb H ∧ ∀ H', Q (.bl true) H'
section
variable {P : Program} {w : World} {K : PySem.W.Frag} {mg : Str → Option Value} {base : Heap} {C : Addr} {c : Fo} {Tb : TbL}
theorem scLaw : FnScope nLw ["_law_script"] (defScope sLaw) := ⟨rfl, rfl, rfl, by decide +kernel, rfl, by decide +kernel, by decide +kernel⟩
theorem ok_law {f : Addr} {fd : FuncData} (F : Fun K "law" "law" sLaw f fd) (T : Cst K mg) (T2 : Cs2 mg)
    (DP : Df P w K mg base 1 "_law_pool" ["_law_script", "_law_k"] (spPool K)) (DR : Df P w K mg base 1 "_law_rounds" ["_law_script"] (spRounds K)) (DT : Df P w K mg base 2 "_law_turned" ["_law_source", "_law_things"] spTurned) (DD_ : Df P w K mg base 6 "_law_deeds" ["_law_source", "_law_most"] spDeeds)
    (DK : DfG P w K mg base 4 "_law_kept" ["_law_deeds_here"] (spKept Tb)) (DI : DfG P w K mg base 6 "_law_is_past" ["_law_past", "_law_due"] (spIsP C)) (DN : DfG P w K mg base 16 "_law_none_there" ["_law_source", "_law_past", "_law_due"] (spNone Tb C)) (DC : DfG P w K mg base 16 "_law_changes_right" ["_law_source", "_law_past", "_law_due"] (spCh Tb C))
    (DF : DfG P w K mg base 16 "_law_refused_right" ["_law_source", "_law_deeds_here"] (spRf Tb)) (DU : DfG P w K mg base 16 "_law_full_right" [] (spFull Tb)) (X : PsX P w K mg base C c.d c.m c.p c.t) : FnG P w K mg base 17 f fd ["_law_script"] (spLaw K Tb) := by
  obtain ⟨gP, fdP, GP, mP, kP, bP⟩ := DP.ex
  obtain ⟨gR, fdR, GR, mR, kR, bR⟩ := DR.ex
  obtain ⟨gT, fdT, GT, mT, kT, bT⟩ := DT.ex
  obtain ⟨gD, fdD, GD, mD_, kD, bD⟩ := DD_.ex
  obtain ⟨gK, fdK, GK, mK, kK, bK⟩ := DK.ex
  obtain ⟨gI, fdI, GI, mI, kI, bI⟩ := DI.ex
  obtain ⟨gN, fdN_, GN_, mN, kN, bN_⟩ := DN.ex
  obtain ⟨gC, fdC, GC, mC, kC, bC⟩ := DC.ex
  obtain ⟨gF, fdF, GF, mF, kF, bF⟩ := DF.ex
  obtain ⟨gU, fdU, GU, mU, kU, bU⟩ := DU.ex
  obtain ⟨fN, fdN, mkN, GN, hN, bN⟩ := X.make.ex
  refine okG F scLaw (fun vs H Q E h => ?_) (fun cdv A outer s H vs Q E hgd hr h => ?_)
  · obtain ⟨a, ns, rfl, _⟩ := h
    rfl
  · obtain ⟨a, ns, rfl, hS, hT, q⟩ := h
    refine ⟨_, pss_cons (ps_for PassesOwn.never rfl (pi_list (pe_call GR (hr.mono (by decide)) (by rfl) mR kR bR .nil pass0 (pa_cons (pv 0) pa_nil))) (pg_name (i := 1) scLaw.nd rfl (Or.inl rfl))
        (pss_cons (ps_set (i := 2) scLaw.nd rfl (Or.inl rfl) (pe_call GP (hr.mono (by decide)) (by rfl) mP kP bP .nil pass0 (pa_cons (pv 0) (pa_cons (pv 1) pa_nil))))
        (pss_cons (ps_set (i := 3) scLaw.nd rfl (Or.inl rfl) (pe_call GT (hr.mono (by decide)) (by rfl) mT kT bT .nil pass0 (pa_cons (pv 2) (pa_cons (pe_call GD (hr.mono (by decide)) (by rfl) mD_ kD bD .nil pass0 (pa_cons (pv 2) (pa_cons pe_int pa_nil))) pa_nil))))
        (pss_cons (ps_par (i := 4) (j := 5) (by rfl) scLaw.nd rfl rfl (by decide) rfl rfl (pa_cons (pe_callG GK hgd (hr.mono (by decide)) (by rfl) mK kK bK (pa_cons (pv 3) pa_nil)) (pa_cons (pe_callTy call_list_of (by rfl) T2.lst (by decide +kernel) (pa_cons (pv 3) pa_nil)) pa_nil)) (by rfl))
        (pss_cons (ps_set (i := 6) scLaw.nd rfl (Or.inl rfl) (pe_make (E := fun _ _ _ => False) mkN GN (hr.mono (by decide)) (by rfl) hN bN .nil (passes_call takes0 fun _ _ _ _ h => h) (pa_cons (pe_ifExp (pt_cmpR op_eq (pe_op op_mod (pv 1) pe_int) pe_int (nomark _)) (pv 5) (pe_callTy (show CallR _ (.type "tuple") (fun xs H Q => ∃ p ys, xs = [.ref p] ∧ ((SqL K H p ys ∧ ∀ l, H l = none → Q (.ref l) (upd H l (.tup ys))) ∨ (SqT K H p ys ∧ Q (.ref p) H))) from call_tuple_of) (by rfl) T.ttup (by decide +kernel) (pa_cons (pv 5) pa_nil))) pa_nil)))
        (pss_cons (ps_expr (pe_bm PySem.F.plainAttrs_list PySem.F.slot_list_append PySem.F.type_list_append mt_append (pv 5) (pa_cons pe_non pa_nil)))
        (pss_cons (ps_if (PW.pt (pw_or (pt_not (pt_val (pe_callG GI hgd (hr.mono (by decide)) (by rfl) mI kI bI (pa_cons (pv 6) (pa_cons (pv 4) pa_nil)))))
            (pw_or (pt_cmpR (op_neO (X.eq.dun (E := E0) pass0) (hr.mono (by decide)) X.ne X.ic.hm) (pv 6) (pe_make (E := fun _ _ _ => False) mkN GN (hr.mono (by decide)) (by rfl) hN bN .nil (passes_call takes0 fun _ _ _ _ h => h) (pa_cons (pv 4) pa_nil)) (nomark _))
            (pw_or1 (pt_cmpR (op_eqO (X.eq.dun (E := E0) pass0) (hr.mono (by decide))) (pv 6) (pv 4) (nomark _)))))) (pss_one (ps_ret pe_bl)) pss_nil)
        (pss_cons (ps_if (PW.pt (pw_or (pt_not (pt_val (pe_callG GN_ hgd hr (by rfl) mN kN bN_ (pa_cons (pv 2) (pa_cons (pv 6) (pa_cons (pv 4) pa_nil)))))) (pw_or1 (pt_not (pt_val (pe_callG GC hgd hr (by rfl) mC kC bC (pa_cons (pv 2) (pa_cons (pv 6) (pa_cons (pv 4) pa_nil))))))))) (pss_one (ps_ret pe_bl)) pss_nil)
        (pss_one (ps_if (pt_not (pt_val (pe_callG GF hgd hr (by rfl) mF kF bF (pa_cons (pv 2) (pa_cons (pv 3) pa_nil))))) (pss_one (ps_ret pe_bl)) pss_nil))))))))))
      (pss_one (ps_ret (pe_callG0 GU hgd hr (by rfl) mU kU bU))), ?_⟩
    refine ⟨_, rfl, a, ns, rfl, hS, fun p0 N G0 hN s0 hp0 => ⟨p0, rfl, ⟨_, SqL.of hp0⟩, ?_⟩⟩
    refine for_list (K := K) (a := p0) (xs := rgV 0 N) (fun i σ G => (∃ x1 x2 x3 x4 x5 x6, σ = [some (.ref a), x1, x2, x3, x4, x5, x6]) ∧ LamX.ExtN G0 G ∧ LamX.Tabs Tb G) ⟨⟨_, _, _, _, _, _, rfl⟩, LamX.ExtN.refl _, hT.ext s0⟩ (fun i σ G _ h => SqL.of (h.2.1 _ _ hp0 fun _ q => nomatch q)) ?_ ?_
    · rintro i y σ G hy ⟨⟨x1, x2, x3, x4, x5, x6, rfl⟩, e1, t1⟩
      obtain ⟨k, rfl, k0, k1⟩ : ∃ k : Int, y = .int k ∧ 0 ≤ k ∧ k ≤ 10 := by
        unfold rgV at hy
        rw [List.getElem?_map] at hy
        obtain ⟨j, hj, rfl⟩ := Option.map_eq_some_iff.mp hy
        have := List.mem_range.mp (List.mem_of_getElem? hj)
        exact ⟨_, rfl, by omega, by omega⟩
      refine seq_at ⟨_, rfl, _, rfl, a, ns, k, rfl, sql_ext ((LamX.ExtN.of s0).trans e1) hS, k0, k1, fun z G1 nz s1 z1 => ?_⟩
      have tG1 := t1.ext s1
      refine seq_at ⟨_, rfl, _, rfl, z, rfl, z1, fun p L G2 b2 z2 np hp lL rows ups => ?_⟩
      have ddm : ∀ {r : RowD} {F : Hp}, DD r.1 z F r.2.1 r.2.2 → momD (rd r) = r.1 := fun {r F} h => by
        obtain ⟨_, _, ds, e, _⟩ := h
        show momD r.2.2 = r.1
        rw [e]
        rfl
      have eld : ∀ r ∈ L, Eld z G2 r.2 := fun r hr => by
        obtain ⟨h1, h2, ds, e, _, _, hb⟩ := (rows r hr).1
        refine ⟨fun m => (h1 m).weak, h2, ?_⟩
        rw [e]
        exact hb.tup.mono (by decide) (by decide)
      refine ⟨z, p, L.map (·.2), rfl, z2, np, by rw [snd_rv]; exact hp, by rw [List.length_map]; omega, fun q hq => ?_, fun p3 M G3 b3 z3 np3 n3 h3 pm => ?_⟩
      · obtain ⟨r, hr2, rfl⟩ := List.mem_map.mp hq
        have e := eld r hr2
        exact ⟨(rows r hr2).1.1 false, bd_okL e.2.1 e.2.2 (by decide)⟩
      have bz : BN z G1 G3 := BN.but (b2.trans b3)
      have t3 : LamX.Tabs Tb G3 := tabs_but (b2.trans b3) z1 tG1
      have hE : ∀ q ∈ M, Eld z G3 q := fun q hq => by
        obtain ⟨r, hr2, rfl⟩ := List.mem_map.mp (pm.mem_iff.mp hq)
        exact (eld r hr2).bn (BN.but b3)
      have lM : M.length ≤ 8 := by
        rw [pm.length_eq, List.length_map]
        exact lL
      have pmm : ((M.map (·.2)).map momD).Perm (L.map (·.1)) := by
        refine ((pm.map (·.2)).map momD).trans ?_
        rw [snd_rd, List.map_map]
        exact .of_eq (List.map_congr_left fun r hr2 => ddm (rows r hr2).1)
      have nd : ((M.map (·.2)).map momD).Nodup := pmm.nodup_iff.mpr (List.pairwise_map.mpr (ups.imp fun h => by omega))
      have m940 : ∀ m ∈ (M.map (·.2)).map momD, m ≤ 940 := fun m hm => by
        obtain ⟨r, hr2, rfl⟩ := List.mem_map.mp (pmm.mem_iff.mp hm)
        exact (rows r hr2).2.2
      refine seq_par ⟨_, rfl, p3, z, M, rfl, z3, t3, h3, np3, by omega, hE, nd, fun u G4 e4 t4 du => ⟨_, rfl, p3, _, rfl, .inl (SqL.of (e4 _ _ h3 fun _ q => nomatch q)), fun h5 n5 => ⟨_, _, rfl, ?_⟩⟩⟩
      have y5 := same_up (o := .lst (M.map (·.1))) n5
      have g5 : upd G4 h5 (.lst (M.map (·.1))) h5 = some (.lst (M.map (·.1))) := upd_same
      have z4 := z3.ext e4
      have w5 := ne_new z4 n5
      have n5' := n5
      generalize upd G4 h5 (.lst (M.map (·.1))) = G5 at y5 g5 ⊢
      have z5 := z4.same y5
      have t5 := t4.ext y5
      have du5 := du.same y5
      have hE5 : ∀ q ∈ M, Eld z G5 q := fun q hq => ((hE q hq).bn (BN.ext e4)).bn (BN.of y5)
      have b15 : BN z G1 G5 := (bz.trans (BN.ext e4)).same y5
      have lds : (srtD ((M.map (·.2)).map inOrd)).length = M.length := by rw [(srtD_perm _).length_eq, List.length_map, List.length_map]
      have mds : ∀ d ∈ srtD ((M.map (·.2)).map inOrd), momD d ≤ 940 := fun d hd => by
        obtain ⟨d', hd', rfl⟩ := List.mem_map.mp ((srtD_perm _).mem_iff.mp hd)
        obtain ⟨q, hq, rfl⟩ := List.mem_map.mp hd'
        rw [momD_ord (hE q hq).2.1]
        exact m940 _ (List.mem_map.mpr ⟨_, hd', rfl⟩)
      generalize hds : srtD ((M.map (·.2)).map inOrd) = dsK at du du5 lds mds
      refine seq_mk (fun v G => ∃ x, v = .ref x ∧ Same G5 G ∧ NewM C G5 G x ∧ PV C z G x dsK) ?_ fun kk hk => ?_
      · rintro _ G6 ⟨x, rfl, s6, nm, px⟩
        have g6 := s6 _ _ g5
        refine seq_drop ⟨_, rfl, .inl ⟨rfl, _, SqL.of g6⟩, h5, _, _, rfl, rfl, g6, ?_, ?_⟩
        · rw [List.length_map]
          exact small1000 (by omega)
        have sA : Same G4 (upd G6 h5 (.lst (M.map (·.1) ++ [V.non]))) := sup n5' (y5.trans s6)
        have pA := px.upd (o := .lst (M.map (·.1) ++ [V.non])) nm g5 g6
        generalize upd G6 h5 (.lst (M.map (·.1) ++ [V.non])) = GA at sA pA ⊢
        have duA := du.same sA
        have zA := z4.same sA
        have tA := t4.ext sA
        obtain ⟨dx, fs, hiA, _⟩ := id pA.ins
        refine seq_ifN ⟨_, rfl, _, rfl, x, u, z, dsK, rfl, pA, duA, zA.some, fun GB sB => ⟨_, rfl, ?_⟩⟩
        refine ite2 (fun e => absurd e (by decide)) fun _ => ?_
        have zB := zA.same sB
        have pB := pA.same sB
        have duB := duA.same sB
        obtain ⟨AB, eAB, hAB, hEB, lAB⟩ := due_rows duB
        refine ⟨_, rfl, _, rfl, ?_⟩
        intro x7 dx7 n7 hdx7 nex7
        refine mk_px n7 hdx7 nex7 (arg_N (z := z) (A := AB) (.inl (past_lst hAB)) (src_lst zB) (by omega) hEB (by rw [eAB]; exact up_nodup duB.up) fun GC sC _ pC => ⟨rfl, ?_⟩)
        rw [eAB, due_ord duB, srtD_of duB.up] at pC
        have pBC := pB.same sC
        refine ⟨x, dx, fs, .ref C, rfl, (sB.trans sC) _ _ hiA, pC.ty X.ic, X.nf, pv_eq_t pBC pC ⟨true, rfl, _, rfl, ?_⟩⟩
        refine ite2 (fun e => absurd e (by decide)) fun _ => ?_
        have hAC := sC _ _ hAB
        refine ⟨_, rfl, _, rfl, x, dx, fs, .type "list", rfl, (sB.trans sC) _ _ hiA, .base (.lst hAC), X.nl, pv_eq_l pBC X.kl hAC ⟨false, rfl, _, rfl, ?_⟩⟩
        refine ite2 (fun e => absurd e (by decide)) fun _ => ?_
        have zC := zB.same sC
        have tC_ := (tA.ext sB).ext sC
        have duC := duB.same sC
        have b4C : BN z G4 GC := BN.of ((sA.trans sB).trans sC)
        refine seq_ifN ⟨_, rfl, _, rfl, _, rfl, z, x, u, dsK, rfl, zC, pBC, duC, tC_, fun GD bD zD tD => ⟨_, rfl, ?_⟩⟩
        refine ite2 (fun e => absurd e (by decide)) fun _ => ?_
        refine ⟨_, rfl, _, rfl, _, rfl, z, x, u, dsK, rfl, zD, pBC.bn bD, duC.bn bD, tD, mds, by omega, fun GE bE zE tE => ⟨_, rfl, ?_⟩⟩
        refine ite2 (fun e => absurd e (by decide)) fun _ => ?_
        have b4E := (b4C.trans bD).trans bE
        have b3E := (BN.ext e4).trans b4E
        refine if_at ⟨_, rfl, _, rfl, z, p3, M, rfl, zE, tE, b3E _ _ np3 (fun _ q => nomatch q) h3, np3, lM, fun q hq => (hE q hq).bn b3E, nd, fun GF bF zF tF => ⟨_, rfl, ?_⟩⟩
        refine ite2 (fun e => absurd e (by decide)) fun _ => ?_
        refine ⟨⟨_, _, _, _, _, _, rfl⟩, e1.trans (ext_bn (z := z) nz ?_), tF⟩
        exact (((BN.of s1).trans bz).trans b3E).trans bF
      · have fin : ∀ (t : Addr) (G : Hp), Same G5 G → ((∀ F, Same G F → TyX K F (.ref t) (.type "list") ∧ SqL K F t (M.map (·.1))) ∨ ∀ F, Same G F → TyX K F (.ref t) (.type "tuple") ∧ SqT K F t (M.map (·.1))) → PastArg K C c.p c.t (.ref t) G kk (fun _ _ _ => False) → True := fun _ _ _ _ _ => trivial
        refine ⟨_, rfl, _, _, rfl, rfl, (by show (0 : Int) < 2; decide), rfl, _, rfl, ?_⟩; skip
        refine ite2 (fun _ => ?_) fun _ => ?_
        · refine ⟨_, rfl, ?_⟩
          intro x dx hx hdx nex
          refine mk_px hx hdx nex (arg_N (z := z) (A := M) (.inl (past_lst g5)) (src_lst z5) (by omega) hE5 nd fun G s nm px => ⟨rfl, hk _ G ⟨x, rfl, s, nm, ?_⟩⟩)
          rw [← hds]
          exact px
        · refine ⟨_, rfl, h5, _, rfl, .inl ⟨SqL.of g5, fun t nt => ?_⟩⟩
          have yt := same_up (o := .tup (M.map (·.1))) nt
          have gt : upd G5 t (.tup (M.map (·.1))) t = some (.tup (M.map (·.1))) := upd_same
          generalize upd G5 t (.tup (M.map (·.1))) = G55 at yt gt ⊢
          intro x dx hx hdx nex
          refine mk_px hx hdx nex (arg_N (z := z) (A := M) (.inr fun G s => ⟨.base (.tup (s _ _ gt)), .inl (.inl (s _ _ gt))⟩) (z_same yt (src_lst z5)) (by omega) (fun q hq => (hE5 q hq).bn (BN.of yt)) nd fun G s nm px => ⟨rfl, hk _ G ⟨x, rfl, yt.trans s, ?_, ?_⟩⟩)
          · obtain ⟨dx', pm', pd', f1, f2⟩ := nm
            exact ⟨dx', pm', pd', f1, none_back yt f2⟩
          · rw [← hds]
            exact px
    · rintro σ G ⟨⟨x1, x2, x3, x4, x5, x6, rfl⟩, e1, t1⟩
      exact ⟨rfl, ⟨p0, _, e1 _ _ hp0 fun _ q => nomatch q⟩, t1, fun G' => q G'⟩
end
end Pl

namespace Pl
open L2 PySem PySem.Spec PyProof.Rows
/-- a def of the top, under its name -/
def AtD (K : PySem.W.Frag) (x : Str) (st : Stmt) : Prop := ∃ (f : Addr) (fd : FuncData), PySem.W.nsIn K mainGlobals x = some (some (.ref f)) ∧ Fun K x x st f fd
theorem forms_get {K : PySem.W.Frag} {d g1 g2 g3 g4 g5 : Addr} {n : Nat} {i1 i2 i3 i4 i5 : Int} {q1 q2 q3 q4 q5 : Tok} (l : K.lookup d = some ⟨.type "dict", none, .dict #[⟨i1, .str "put" q1, .ref g1⟩, ⟨i2, .str "strike" q2, .ref g2⟩, ⟨i3, .str "add" q3, .ref g3⟩, ⟨i4, .str "drop" q4, .ref g4⟩, ⟨i5, .str "rename" q5, .ref g5⟩] n, #[]⟩) (x : Str) :
    PySem.W.nsIn K d x = some (if x = "put" then some (.ref g1) else if x = "strike" then some (.ref g2) else if x = "add" then some (.ref g3) else if x = "drop" then some (.ref g4) else if x = "rename" then some (.ref g5) else none) := by
  unfold PySem.W.nsIn
  rw [l]
  by_cases h1 : x = "put"
  · subst h1
    rfl
  by_cases h2 : x = "strike"
  · subst h2
    rfl
  by_cases h3 : x = "add"
  · subst h3
    rfl
  by_cases h4 : x = "drop"
  · subst h4
    rfl
  by_cases h5 : x = "rename"
  · subst h5
    rfl
  rw [if_neg h1, if_neg h2, if_neg h3, if_neg h4, if_neg h5]
  have no : ∀ (y : Str) (q : Tok), ¬ x = y → (Value.str y q).isStr x = false := fun y q h => by
    have e : (Value.str y q).isStr x = (y == x) := rfl
    rw [e]
    exact beq_eq_false_iff_ne.mpr fun z => h z.symm
  simp only [List.find?, no _ _ h1, no _ _ h2, no _ _ h3, no _ _ h4, no _ _ h5]
  rfl
def tbX (cs : List (Addr × Addr)) (a b c d e : Str) : TbL := (cs.map fun q => q.2).zip [a, b, c, d, e]
theorem tbX5 {c1 c2 c3 c4 c5 P1 P2 P3 P4 P5 : Addr} {a b c d e : Str} : tbX [(c1, P1), (c2, P2), (c3, P3), (c4, P4), (c5, P5)] a b c d e = [(P1, a), (P2, b), (P3, c), (P4, d), (P5, e)] := rfl
def tbOf (cs : List (Addr × Addr)) : TbL := tbX cs lamK lamN lamC lamF lamU
section
variable {α β : Type} {p q r s t : α × β} {P1 P2 P3 P4 P5 : α} {a b c d e : β}
theorem hm1 : p ∈ [p, q, r, s, t] := List.mem_cons_self
theorem hm2 : q ∈ [p, q, r, s, t] := List.mem_cons_of_mem _ (List.mem_cons_self)
theorem hm3 : r ∈ [p, q, r, s, t] := List.mem_cons_of_mem _ (List.mem_cons_of_mem _ (List.mem_cons_self))
theorem hm4 : s ∈ [p, q, r, s, t] := List.mem_cons_of_mem _ (List.mem_cons_of_mem _ (List.mem_cons_of_mem _ (List.mem_cons_self)))
theorem hm5 : t ∈ [p, q, r, s, t] := List.mem_cons_of_mem _ (List.mem_cons_of_mem _ (List.mem_cons_of_mem _ (List.mem_cons_of_mem _ (List.mem_cons_self))))
theorem hu1 (h12 : P1 ≠ P2) (h13 : P1 ≠ P3) (h14 : P1 ≠ P4) (h15 : P1 ≠ P5) : ∀ t ∈ [(P1, a), (P2, b), (P3, c), (P4, d), (P5, e)], t.1 = P1 → t.2 = a := fun t ht e => by
  simp only [List.mem_cons, List.not_mem_nil, or_false] at ht
  rcases ht with h | h | h | h | h
  · subst h; exact rfl
  · subst h; exact absurd e.symm h12
  · subst h; exact absurd e.symm h13
  · subst h; exact absurd e.symm h14
  · subst h; exact absurd e.symm h15
theorem hu2 (h12 : P1 ≠ P2) (h23 : P2 ≠ P3) (h24 : P2 ≠ P4) (h25 : P2 ≠ P5) : ∀ t ∈ [(P1, a), (P2, b), (P3, c), (P4, d), (P5, e)], t.1 = P2 → t.2 = b := fun t ht e => by
  simp only [List.mem_cons, List.not_mem_nil, or_false] at ht
  rcases ht with h | h | h | h | h
  · subst h; exact absurd e h12
  · subst h; exact rfl
  · subst h; exact absurd e.symm h23
  · subst h; exact absurd e.symm h24
  · subst h; exact absurd e.symm h25
theorem hu3 (h13 : P1 ≠ P3) (h23 : P2 ≠ P3) (h34 : P3 ≠ P4) (h35 : P3 ≠ P5) : ∀ t ∈ [(P1, a), (P2, b), (P3, c), (P4, d), (P5, e)], t.1 = P3 → t.2 = c := fun t ht e => by
  simp only [List.mem_cons, List.not_mem_nil, or_false] at ht
  rcases ht with h | h | h | h | h
  · subst h; exact absurd e h13
  · subst h; exact absurd e h23
  · subst h; exact rfl
  · subst h; exact absurd e.symm h34
  · subst h; exact absurd e.symm h35
theorem hu4 (h14 : P1 ≠ P4) (h24 : P2 ≠ P4) (h34 : P3 ≠ P4) (h45 : P4 ≠ P5) : ∀ t ∈ [(P1, a), (P2, b), (P3, c), (P4, d), (P5, e)], t.1 = P4 → t.2 = d := fun t ht e => by
  simp only [List.mem_cons, List.not_mem_nil, or_false] at ht
  rcases ht with h | h | h | h | h
  · subst h; exact absurd e h14
  · subst h; exact absurd e h24
  · subst h; exact absurd e h34
  · subst h; exact rfl
  · subst h; exact absurd e.symm h45
theorem hu5 (h15 : P1 ≠ P5) (h25 : P2 ≠ P5) (h35 : P3 ≠ P5) (h45 : P4 ≠ P5) : ∀ t ∈ [(P1, a), (P2, b), (P3, c), (P4, d), (P5, e)], t.1 = P5 → t.2 = e := fun t ht e => by
  simp only [List.mem_cons, List.not_mem_nil, or_false] at ht
  rcases ht with h | h | h | h | h
  · subst h; exact absurd e h15
  · subst h; exact absurd e h25
  · subst h; exact absurd e h35
  · subst h; exact absurd e h45
  · subst h; exact rfl
end
theorem all5 {p : Addr × Addr → Prop} {a b c d e : Addr × Addr} (h1 : p a) (h2 : p b) (h3 : p c) (h4 : p d) (h5 : p e) : ∀ q ∈ [a, b, c, d, e], p q := fun q hq => by
  simp only [List.mem_cons, List.not_mem_nil, or_false] at hq
  rcases hq with rfl | rfl | rfl | rfl | rfl
  · exact h1
  · exact h2
  · exact h3
  · exact h4
  · exact h5
theorem tbOf_tabs {cs : List (Addr × Addr)} {H : Hp} (h : ∀ q ∈ cs, H q.2 = some (.tbl #[])) : LamX.Tabs (tbOf cs) H := fun p hp => by
  obtain ⟨a, b⟩ := p
  obtain ⟨q, hq, e⟩ := List.mem_map.mp (List.of_mem_zip hp).1
  have e' : q.2 = a := e
  exact LamX.TabS.nil (e' ▸ h q hq)
theorem walkP {l : PySem.W.OpenLaw} {n : Nat} {qp : Program} {loose : List Str} {XP : (Str → Option Value) → Heap → Prop} {YP : World → Heap → Prop} {d : DefRec} {K : Params → PySem.W.Frag}
    (hn : l.most = some n) (hn2 : n ≤ sizeLine) (hdf : d.params.defaults = []) (hY : ∀ (w : World) (h : Heap), YP w h → (K w.params).In h)
    (F : ∀ (w : World) (mg : Str → Option Value) (fa : Addr) (h : Heap), YP w h → (K w.params).In h → h.Ns mainGlobals mg → mg d.name = some (.ref fa) → LawM l w (K w.params) mg fa h 17 (fun cs => spLaw (K w.params) (tbOf cs))) :
    PySem.W.WalkO qp loose XP YP l.row.toRowW d [] (fun f vs => PySem.call f vs) :=
  walkM (sp := fun w cs => spLaw (K w.params) (tbOf cs)) hn hn2 hdf ⟨rfl, by decide, by decide⟩ hY (fun w cs H a ns hH seq => ⟨a, ns, rfl, seq, tbOf_tabs hH, fun _ => rfl⟩) F
theorem all_mk {l : PySem.W.OpenLaw} {w : World} {K : PySem.W.Frag} {h : Heap} {mg : Str → Option Value} {fa : Addr} (X : K.In h) (G : h.Ns mainGlobals mg) (hfa : mg "law" = some (.ref fa))
    {t1 t2 t3 t4 t5 t6 t7 : Tok} {aK dF g1 g2 g3 g4 g5 : Addr} {slK : Array (Option Value)} {odK : Option Addr} {nK nF : Nat} {u0 u1 u2 u3 u4 u5 u6 u7 u8 u9 : Tok} {hF1 hF2 hF3 hF4 hF5 : Int} {q1 q2 q3 q4 q5 : Tok} {ft1 ct1 Pt1 : Addr} {odt1 ant1 odc1 : Option Addr} {slt1 slc1 : Array (Option Value)} {oct1 kVt1 dct1 pmt1 ctt1 : Value} {vsC1 : Array Value} {ft2 ct2 Pt2 : Addr} {odt2 ant2 odc2 : Option Addr} {slt2 slc2 : Array (Option Value)} {oct2 kVt2 dct2 pmt2 ctt2 : Value} {vsC2 : Array Value} {ft3 ct3 Pt3 : Addr} {odt3 ant3 odc3 : Option Addr} {slt3 slc3 : Array (Option Value)} {oct3 kVt3 dct3 pmt3 ctt3 : Value} {vsC3 : Array Value} {ft4 ct4 Pt4 : Addr} {odt4 ant4 odc4 : Option Addr} {slt4 slc4 : Array (Option Value)} {oct4 kVt4 dct4 pmt4 ctt4 : Value} {vsC4 : Array Value} {ft5 ct5 Pt5 : Addr} {odt5 ant5 odc5 : Option Addr} {slt5 slc5 : Array (Option Value)} {oct5 kVt5 dct5 pmt5 ctt5 : Value} {vsC5 : Array Value} {C_d fI_d S_d N_d : Addr} {odI_d anI_d dd_d : Option Addr} {slI_d : Array (Option Value)} {ocI_d kVI_d dcI_d pmI_d cdI_d ctI_d : Value} {nm_d q_d : Str} {bs_d sub_d : List Value} {sn_d : List Str} {ab_d : Bool} {col_d : Option Bool} {u0_d u1_d u2_d u3_d u5_d : Option Value} {C_p fI_p S_p N_p : Addr} {odI_p anI_p dd_p : Option Addr} {slI_p : Array (Option Value)} {ocI_p kVI_p dcI_p pmI_p cdI_p ctI_p : Value} {nm_p q_p : Str} {bs_p sub_p : List Value} {sn_p : List Str} {ab_p : Bool} {col_p : Option Bool} {u0_p u1_p u2_p u3_p u5_p : Option Value} {C_m fI_m S_m N_m : Addr} {odI_m anI_m dd_m : Option Addr} {slI_m : Array (Option Value)} {ocI_m kVI_m dcI_m pmI_m cdI_m ctI_m : Value} {nm_m q_m : Str} {bs_m sub_m : List Value} {sn_m : List Str} {ab_m : Bool} {col_m : Option Bool} {u0_m u1_m u2_m u3_m u5_m : Option Value} {C_t fI_t N_t : Addr} {odI_t anI_t dd_t : Option Addr} {slI_t : Array (Option Value)} {ocI_t kVI_t dcI_t pmI_t cdI_t ctI_t : Value} {nm_t q_t : Str} {bs_t sub_t : List Value} {sn_t : List Str} {ab_t : Bool} {col_t : Option Bool} {u0_t u1_t u2_t u3_t u5_t : Option Value} {CQ fQ TdQ a0Q : Addr} {odQ anQ tdQ odA : Option Addr} {slQ tslQ slA : Array (Option Value)} {ocQ kVQ dcQ pmQ cdQ ctQ tcQ : Value} {nQ nA : Nat} {fM1 : Addr} {odM1 anM1 : Option Addr} {slM1 : Array (Option Value)} {ocM1 kVM1 dcM1 pmM1 cdM1 ctM1 : Value} {fM2 : Addr} {odM2 anM2 : Option Addr} {slM2 : Array (Option Value)} {ocM2 kVM2 dcM2 pmM2 cdM2 ctM2 : Value} {fM3 : Addr} {odM3 anM3 : Option Addr} {slM3 : Array (Option Value)} {ocM3 kVM3 dcM3 pmM3 cdM3 ctM3 : Value} {fM4 : Addr} {odM4 anM4 : Option Addr} {slM4 : Array (Option Value)} {ocM4 kVM4 dcM4 pmM4 cdM4 ctM4 : Value} {fM6 : Addr} {odM6 anM6 : Option Addr} {slM6 : Array (Option Value)} {ocM6 kVM6 dcM6 pmM6 cdM6 ctM6 : Value} {fM7 : Addr} {odM7 anM7 : Option Addr} {slM7 : Array (Option Value)} {ocM7 kVM7 dcM7 pmM7 cdM7 ctM7 : Value} {fM8 : Addr} {odM8 anM8 : Option Addr} {slM8 : Array (Option Value)} {ocM8 kVM8 dcM8 pmM8 cdM8 ctM8 : Value} {fM9 : Addr} {odM9 anM9 : Option Addr} {slM9 : Array (Option Value)} {ocM9 kVM9 dcM9 pmM9 cdM9 ctM9 : Value}
    (A0 : AtD K "is_number" sIsNumber)
    (A1 : AtD K "is_within" sIsWithin)
    (A2 : AtD K "is_moment" sIsMoment)
    (A3 : AtD K "is_value" sIsValue)
    (A4 : AtD K "is_key" sIsKey)
    (A5 : AtD K "is_name" sIsName)
    (A6 : AtD K "_is_pair" sIsPair)
    (A7 : AtD K "_are_pairs" sArePairs)
    (A8 : AtD K "_is_put" sIsPut)
    (A9 : AtD K "_is_strike" sIsStrike)
    (A10 : AtD K "_is_add" sIsAdd)
    (A11 : AtD K "_is_drop" sIsDrop)
    (A12 : AtD K "_is_rename" sIsRename)
    (A13 : AtD K "is_deed" sIsDeed)
    (A14 : AtD K "_check_deed" sCheck)
    (A15 : AtD K "in_order" sInOrder)
    (A16 : AtD K "_law_pool" sPool)
    (A17 : AtD K "_law_take" sTake)
    (A18 : AtD K "_law_one" sOne)
    (A19 : AtD K "_law_turned" sTurned)
    (A20 : AtD K "_law_rounds" sRounds)
    (A21 : AtD K "_law_called" sCalled)
    (A22 : AtD K "_law_number" sNumber)
    (A23 : AtD K "_law_pairs" sPairs)
    (A24 : AtD K "_law_deed" sDeed)
    (A25 : AtD K "_law_deeds" sDeeds)
    (A26 : AtD K "_law_caught" sCaught)
    (A27 : AtD K "_law_is_past" sIsPast)
    (A28 : AtD K "law" sLaw)
    (z_isinstance : PySem.W.nsIn K mainGlobals "isinstance" = some none)
    (z_len : PySem.W.nsIn K mainGlobals "len" = some none)
    (z_all : PySem.W.nsIn K mainGlobals "all" = some none)
    (z_set : PySem.W.nsIn K mainGlobals "set" = some none)
    (z_int : PySem.W.nsIn K mainGlobals "int" = some none)
    (z_bool : PySem.W.nsIn K mainGlobals "bool" = some none)
    (z_str : PySem.W.nsIn K mainGlobals "str" = some none)
    (z_tuple : PySem.W.nsIn K mainGlobals "tuple" = some none)
    (z_sorted : PySem.W.nsIn K mainGlobals "sorted" = some none)
    (z_max : PySem.W.nsIn K mainGlobals "max" = some none)
    (z_min : PySem.W.nsIn K mainGlobals "min" = some none)
    (z_list : PySem.W.nsIn K mainGlobals "list" = some none)
    (z_range : PySem.W.nsIn K mainGlobals "range" = some none)
    (z_repr : PySem.W.nsIn K mainGlobals "repr" = some none)
    (z_dict : PySem.W.nsIn K mainGlobals "dict" = some none)
    (z_enumerate : PySem.W.nsIn K mainGlobals "enumerate" = some none)
    (g_FIRST_MOMENT : PySem.W.nsIn K mainGlobals "FIRST_MOMENT" = some (some (.int 1 t1)))
    (g_LAST_MOMENT : PySem.W.nsIn K mainGlobals "LAST_MOMENT" = some (some (.int 999 t2)))
    (g_LAST_VALUE : PySem.W.nsIn K mainGlobals "LAST_VALUE" = some (some (.int 99 t3)))
    (g_LONGEST_NAME : PySem.W.nsIn K mainGlobals "LONGEST_NAME" = some (some (.int 4 t4)))
    (g_MOST_PAIRS : PySem.W.nsIn K mainGlobals "MOST_PAIRS" = some (some (.int 4 t5)))
    (g_LETTERS : PySem.W.nsIn K mainGlobals "LETTERS" = some (some (.str LET t6)))
    (g_MOST_DEEDS : PySem.W.nsIn K mainGlobals "MOST_DEEDS" = some (some (.int 60 t7)))
    (nK_ : PySem.W.nsIn K mainGlobals "KEYS" = some (some (.ref aK)))
    (lK : K.lookup aK = some ⟨.type "tuple", odK, .seq #[.int 0 u0, .int 1 u1, .int 2 u2, .int 3 u3, .int 4 u4, .int 5 u5, .int 6 u6, .int 7 u7, .int 8 u8, .int 9 u9] nK, slK⟩)
    (nF_ : PySem.W.nsIn K mainGlobals "FORMS" = some (some (.ref dF)))
    (lF : K.lookup dF = some ⟨.type "dict", none, .dict #[⟨hF1, .str "put" q1, .ref g1⟩, ⟨hF2, .str "strike" q2, .ref g2⟩, ⟨hF3, .str "add" q3, .ref g3⟩, ⟨hF4, .str "drop" q4, .ref g4⟩, ⟨hF5, .str "rename" q5, .ref g5⟩] nF, #[]⟩)
    (litF : PySem.W.KeysLit w.params [⟨hF1, .str "put" q1, .ref g1⟩, ⟨hF2, .str "strike" q2, .ref g2⟩, ⟨hF3, .str "add" q3, .ref g3⟩, ⟨hF4, .str "drop" q4, .ref g4⟩, ⟨hF5, .str "rename" q5, .ref g5⟩])
    (lowF : (dF == sysModules) = false)
    (m1 : PySem.W.nsIn K mainGlobals "_is_put" = some (some (.ref g1)))
    (m2 : PySem.W.nsIn K mainGlobals "_is_strike" = some (some (.ref g2)))
    (m3 : PySem.W.nsIn K mainGlobals "_is_add" = some (some (.ref g3)))
    (m4 : PySem.W.nsIn K mainGlobals "_is_drop" = some (some (.ref g4)))
    (m5 : PySem.W.nsIn K mainGlobals "_is_rename" = some (some (.ref g5)))
    (nt1 : PySem.W.nsIn K mainGlobals "_law_kept" = some (some (.ref ft1)))
    (lt1 : K.lookup ft1 = some ⟨oct1, odt1, .func (PySem.W.fnOf "_law_kept" "_law_kept" (defArgs sKept) (defBody sKept) (defScope sKept) .none kVt1 dct1 pmt1 ant1 (.ref ct1) ctt1), slt1⟩)
    (ck1 : PySem.W.codeIn K (.ref ct1) "_law_kept" = true)
    (kk1 : PySem.W.keepIn K (.ref ft1) = true)
    (lc1 : K.lookup ct1 = some ⟨.type "code", odc1, .fields vsC1, slc1⟩)
    (hP1 : vsC1[11]? = some (.ref Pt1))
    (hcd1 : PySem.W.codeHdIn K ct1 Pt1 = true)
    (notK1 : K.lookup Pt1 = none)
    (tab1 : h.get? Pt1 = some { cls := .none, data := .fields #[] })
    (nt2 : PySem.W.nsIn K mainGlobals "_law_none_there" = some (some (.ref ft2)))
    (lt2 : K.lookup ft2 = some ⟨oct2, odt2, .func (PySem.W.fnOf "_law_none_there" "_law_none_there" (defArgs sNone) (defBody sNone) (defScope sNone) .none kVt2 dct2 pmt2 ant2 (.ref ct2) ctt2), slt2⟩)
    (ck2 : PySem.W.codeIn K (.ref ct2) "_law_none_there" = true)
    (kk2 : PySem.W.keepIn K (.ref ft2) = true)
    (lc2 : K.lookup ct2 = some ⟨.type "code", odc2, .fields vsC2, slc2⟩)
    (hP2 : vsC2[11]? = some (.ref Pt2))
    (hcd2 : PySem.W.codeHdIn K ct2 Pt2 = true)
    (notK2 : K.lookup Pt2 = none)
    (tab2 : h.get? Pt2 = some { cls := .none, data := .fields #[] })
    (nt3 : PySem.W.nsIn K mainGlobals "_law_changes_right" = some (some (.ref ft3)))
    (lt3 : K.lookup ft3 = some ⟨oct3, odt3, .func (PySem.W.fnOf "_law_changes_right" "_law_changes_right" (defArgs sChg) (defBody sChg) (defScope sChg) .none kVt3 dct3 pmt3 ant3 (.ref ct3) ctt3), slt3⟩)
    (ck3 : PySem.W.codeIn K (.ref ct3) "_law_changes_right" = true)
    (kk3 : PySem.W.keepIn K (.ref ft3) = true)
    (lc3 : K.lookup ct3 = some ⟨.type "code", odc3, .fields vsC3, slc3⟩)
    (hP3 : vsC3[11]? = some (.ref Pt3))
    (hcd3 : PySem.W.codeHdIn K ct3 Pt3 = true)
    (notK3 : K.lookup Pt3 = none)
    (tab3 : h.get? Pt3 = some { cls := .none, data := .fields #[] })
    (nt4 : PySem.W.nsIn K mainGlobals "_law_refused_right" = some (some (.ref ft4)))
    (lt4 : K.lookup ft4 = some ⟨oct4, odt4, .func (PySem.W.fnOf "_law_refused_right" "_law_refused_right" (defArgs sRef) (defBody sRef) (defScope sRef) .none kVt4 dct4 pmt4 ant4 (.ref ct4) ctt4), slt4⟩)
    (ck4 : PySem.W.codeIn K (.ref ct4) "_law_refused_right" = true)
    (kk4 : PySem.W.keepIn K (.ref ft4) = true)
    (lc4 : K.lookup ct4 = some ⟨.type "code", odc4, .fields vsC4, slc4⟩)
    (hP4 : vsC4[11]? = some (.ref Pt4))
    (hcd4 : PySem.W.codeHdIn K ct4 Pt4 = true)
    (notK4 : K.lookup Pt4 = none)
    (tab4 : h.get? Pt4 = some { cls := .none, data := .fields #[] })
    (nt5 : PySem.W.nsIn K mainGlobals "_law_full_right" = some (some (.ref ft5)))
    (lt5 : K.lookup ft5 = some ⟨oct5, odt5, .func (PySem.W.fnOf "_law_full_right" "_law_full_right" (defArgs sFull) (defBody sFull) (defScope sFull) .none kVt5 dct5 pmt5 ant5 (.ref ct5) ctt5), slt5⟩)
    (ck5 : PySem.W.codeIn K (.ref ct5) "_law_full_right" = true)
    (kk5 : PySem.W.keepIn K (.ref ft5) = true)
    (lc5 : K.lookup ct5 = some ⟨.type "code", odc5, .fields vsC5, slc5⟩)
    (hP5 : vsC5[11]? = some (.ref Pt5))
    (hcd5 : PySem.W.codeHdIn K ct5 Pt5 = true)
    (notK5 : K.lookup Pt5 = none)
    (tab5 : h.get? Pt5 = some { cls := .none, data := .fields #[] })
    (ne12 : Pt1 ≠ Pt2)
    (ne13 : Pt1 ≠ Pt3)
    (ne14 : Pt1 ≠ Pt4)
    (ne15 : Pt1 ≠ Pt5)
    (ne23 : Pt2 ≠ Pt3)
    (ne24 : Pt2 ≠ Pt4)
    (ne25 : Pt2 ≠ Pt5)
    (ne34 : Pt3 ≠ Pt4)
    (ne35 : Pt3 ≠ Pt5)
    (ne45 : Pt4 ≠ Pt5)
    (nCd : PySem.W.nsIn K mainGlobals "NoDeed" = some (some (.ref C_d)))
    (xLd : K.lookup C_d = some (excClassObj nm_d q_d C_d N_d bs_d [.ref S_d, .type "ValueError", .type "Exception", .type "BaseException", .type "object"] true sn_d sub_d ab_d col_d dd_d u0_d u1_d u2_d u3_d u5_d "ValueError.__new__"))
    (x5d : PySem.W.findIn K (.ref C_d) "__setattr__" = some (some (.builtin "object.__setattr__")))
    (x6d : PySem.W.typeIn K (.ref C_d) = some (.type "type"))
    (x7d : PySem.W.keepIn K (.ref C_d) = true)
    (iId : PySem.W.findIn K (.ref C_d) "__init__" = some (some (.ref fI_d)))
    (tId : PySem.W.typeIn K (.ref fI_d) = some (.type "function"))
    (nTd : PySem.W.findIn K (.ref C_d) "told" = some none)
    (lId : K.lookup fI_d = some ⟨ocI_d, odI_d, .func (PySem.W.fnOf "__init__" "NoDeed.__init__" (defArgs (inClass (top 2) 0)) (defBody (inClass (top 2) 0)) (defScope (inClass (top 2) 0)) .none kVI_d dcI_d pmI_d anI_d cdI_d ctI_d), slI_d⟩)
    (cId : PySem.W.codeIn K cdI_d "NoDeed.__init__" = true)
    (kId : PySem.W.keepIn K (.ref fI_d) = true)
    (x1d : PySem.W.findIn K (.ref C_d) "__getattribute__" = some (some (.builtin "BaseException.__getattribute__")))
    (x2d : PySem.W.findIn K (.ref C_d) "__getattr__" = some none)
    (x3d : PySem.W.subIn K (.ref C_d) (.type "BaseException") = some true)
    (x4d : PySem.W.hasDictIn K C_d = true)
    (nCp : PySem.W.nsIn K mainGlobals "NoPast" = some (some (.ref C_p)))
    (xLp : K.lookup C_p = some (excClassObj nm_p q_p C_p N_p bs_p [.ref S_p, .type "ValueError", .type "Exception", .type "BaseException", .type "object"] true sn_p sub_p ab_p col_p dd_p u0_p u1_p u2_p u3_p u5_p "ValueError.__new__"))
    (x5p : PySem.W.findIn K (.ref C_p) "__setattr__" = some (some (.builtin "object.__setattr__")))
    (x6p : PySem.W.typeIn K (.ref C_p) = some (.type "type"))
    (x7p : PySem.W.keepIn K (.ref C_p) = true)
    (iIp : PySem.W.findIn K (.ref C_p) "__init__" = some (some (.ref fI_p)))
    (tIp : PySem.W.typeIn K (.ref fI_p) = some (.type "function"))
    (nTp : PySem.W.findIn K (.ref C_p) "told" = some none)
    (lIp : K.lookup fI_p = some ⟨ocI_p, odI_p, .func (PySem.W.fnOf "__init__" "NoPast.__init__" (defArgs (inClass (top 3) 0)) (defBody (inClass (top 3) 0)) (defScope (inClass (top 3) 0)) .none kVI_p dcI_p pmI_p anI_p cdI_p ctI_p), slI_p⟩)
    (cIp : PySem.W.codeIn K cdI_p "NoPast.__init__" = true)
    (kIp : PySem.W.keepIn K (.ref fI_p) = true)
    (x1p : PySem.W.findIn K (.ref C_p) "__getattribute__" = some (some (.builtin "BaseException.__getattribute__")))
    (x2p : PySem.W.findIn K (.ref C_p) "__getattr__" = some none)
    (x3p : PySem.W.subIn K (.ref C_p) (.type "BaseException") = some true)
    (x4p : PySem.W.hasDictIn K C_p = true)
    (nCm : PySem.W.nsIn K mainGlobals "NoMoment" = some (some (.ref C_m)))
    (xLm : K.lookup C_m = some (excClassObj nm_m q_m C_m N_m bs_m [.ref S_m, .type "ValueError", .type "Exception", .type "BaseException", .type "object"] true sn_m sub_m ab_m col_m dd_m u0_m u1_m u2_m u3_m u5_m "ValueError.__new__"))
    (x5m : PySem.W.findIn K (.ref C_m) "__setattr__" = some (some (.builtin "object.__setattr__")))
    (x6m : PySem.W.typeIn K (.ref C_m) = some (.type "type"))
    (x7m : PySem.W.keepIn K (.ref C_m) = true)
    (iIm : PySem.W.findIn K (.ref C_m) "__init__" = some (some (.ref fI_m)))
    (tIm : PySem.W.typeIn K (.ref fI_m) = some (.type "function"))
    (nTm : PySem.W.findIn K (.ref C_m) "told" = some none)
    (lIm : K.lookup fI_m = some ⟨ocI_m, odI_m, .func (PySem.W.fnOf "__init__" "NoMoment.__init__" (defArgs (inClass (top 4) 0)) (defBody (inClass (top 4) 0)) (defScope (inClass (top 4) 0)) .none kVI_m dcI_m pmI_m anI_m cdI_m ctI_m), slI_m⟩)
    (cIm : PySem.W.codeIn K cdI_m "NoMoment.__init__" = true)
    (kIm : PySem.W.keepIn K (.ref fI_m) = true)
    (x1m : PySem.W.findIn K (.ref C_m) "__getattribute__" = some (some (.builtin "BaseException.__getattribute__")))
    (x2m : PySem.W.findIn K (.ref C_m) "__getattr__" = some none)
    (x3m : PySem.W.subIn K (.ref C_m) (.type "BaseException") = some true)
    (x4m : PySem.W.hasDictIn K C_m = true)
    (nCt : PySem.W.nsIn K mainGlobals "TooMany" = some (some (.ref C_t)))
    (xLt : K.lookup C_t = some (excClassObj nm_t q_t C_t N_t bs_t [.type "OverflowError", .type "ArithmeticError", .type "Exception", .type "BaseException", .type "object"] true sn_t sub_t ab_t col_t dd_t u0_t u1_t u2_t u3_t u5_t "OverflowError.__new__"))
    (x5t : PySem.W.findIn K (.ref C_t) "__setattr__" = some (some (.builtin "object.__setattr__")))
    (x6t : PySem.W.typeIn K (.ref C_t) = some (.type "type"))
    (x7t : PySem.W.keepIn K (.ref C_t) = true)
    (iIt : PySem.W.findIn K (.ref C_t) "__init__" = some (some (.ref fI_t)))
    (tIt : PySem.W.typeIn K (.ref fI_t) = some (.type "function"))
    (nTt : PySem.W.findIn K (.ref C_t) "most" = some none)
    (lIt : K.lookup fI_t = some ⟨ocI_t, odI_t, .func (PySem.W.fnOf "__init__" "TooMany.__init__" (defArgs (inClass (top 5) 0)) (defBody (inClass (top 5) 0)) (defScope (inClass (top 5) 0)) .none kVI_t dcI_t pmI_t anI_t cdI_t ctI_t), slI_t⟩)
    (cIt : PySem.W.codeIn K cdI_t "TooMany.__init__" = true)
    (kIt : PySem.W.keepIn K (.ref fI_t) = true)
    (x1t : PySem.W.findIn K (.ref C_t) "__getattribute__" = some (some (.builtin "BaseException.__getattribute__")))
    (x2t : PySem.W.findIn K (.ref C_t) "__getattr__" = some none)
    (x3t : PySem.W.subIn K (.ref C_t) (.type "BaseException") = some true)
    (x4t : PySem.W.hasDictIn K C_t = true)
    (spp : PySem.W.subIn K (.ref C_p) (.ref C_p) = some true)
    (sdp : PySem.W.subIn K (.ref C_d) (.ref C_p) = some false)
    (sdd : PySem.W.subIn K (.ref C_d) (.ref C_d) = some true)
    (smp : PySem.W.subIn K (.ref C_m) (.ref C_p) = some false)
    (smd : PySem.W.subIn K (.ref C_m) (.ref C_d) = some false)
    (smm : PySem.W.subIn K (.ref C_m) (.ref C_m) = some true)
    (stp : PySem.W.subIn K (.ref C_t) (.ref C_p) = some false)
    (std : PySem.W.subIn K (.ref C_t) (.ref C_d) = some false)
    (stm : PySem.W.subIn K (.ref C_t) (.ref C_m) = some false)
    (stt : PySem.W.subIn K (.ref C_t) (.ref C_t) = some true)
    (nQ_ : PySem.W.nsIn K mainGlobals "Past" = some (some (.ref CQ)))
    (cQ1 : PySem.W.plainGet K CQ Str.empty = true)
    (cQ2 : PySem.W.hasDictIn K CQ = true)
    (cQ3 : PySem.W.plainOver K CQ = true)
    (cQ4 : PySem.W.findIn K (.ref CQ) "__setattr__" = some (some (.builtin "object.__setattr__")))
    (aQ1 : PySem.W.findIn K (.ref CQ) "_moments" = some none)
    (aQ2 : PySem.W.findIn K (.ref CQ) "_rows" = some none)
    (mkQ : PySem.W.makesIn K CQ = true)
    (inQ : PySem.W.findIn K (.ref CQ) "__init__" = some (some (.ref fQ)))
    (fnQ : PySem.W.isFn K (.ref fQ) = true)
    (kpQ : PySem.W.keepIn K (.ref CQ) = true)
    (kfQ : PySem.W.keepIn K (.ref fQ) = true)
    (lQ : K.lookup fQ = some ⟨ocQ, odQ, .func (PySem.W.fnOf "__init__" "Past.__init__" (defArgs sPInit) (defBody sPInit) (defScope sPInit) (.ref TdQ) kVQ dcQ pmQ anQ cdQ ctQ), slQ⟩)
    (ccQ : PySem.W.codeIn K cdQ "Past.__init__" = true)
    (tQ : K.lookup TdQ = some ⟨tcQ, tdQ, .seq #[.ref a0Q] nQ, tslQ⟩)
    (t0Q : K.lookup a0Q = some ⟨.type "tuple", odA, .seq #[] nA, slA⟩)
    (hQ1 : PySem.W.findIn K (.ref CQ) "__class__" = some (some (.builtin "object.__class__")))
    (hQ2 : PySem.W.specialIn K (.builtin "object.__class__") "__get__" = some (some (.builtin "getset_descriptor.__get__")))
    (hQ3 : PySem.W.takesIn K (.builtin "object.__class__") = some true)
    (hQ4 : PySem.W.mroIn K CQ (.type "object") = some true)
    (hQ6 : PySem.W.findIn K (.ref CQ) "__ne__" = some (some (.builtin "object.__ne__")))
    (hQ7 : PySem.W.notFirst K CQ (.ref CQ) = true)
    (hQ8 : PySem.W.notFirst K CQ (.type "list") = true)
    (hQ9 : PySem.W.kitOne K (.type "list") (.ref CQ) = some false)
    (iM1 : PySem.W.findIn K (.ref CQ) "deeds" = some (some (.ref fM1)))
    (fnM1 : PySem.W.isFn K (.ref fM1) = true)
    (kpM1 : PySem.W.keepIn K (.ref fM1) = true)
    (fiM1 : PySem.W.fnIn K fM1 = true)
    (lM1 : K.lookup fM1 = some ⟨ocM1, odM1, .func (PySem.W.fnOf "deeds" "Past.deeds" (defArgs sDeeds_) (defBody sDeeds_) (defScope sDeeds_) .none kVM1 dcM1 pmM1 anM1 cdM1 ctM1), slM1⟩)
    (cM1 : PySem.W.codeIn K cdM1 "Past.deeds" = true)
    (iM2 : PySem.W.findIn K (.ref CQ) "__getitem__" = some (some (.ref fM2)))
    (fnM2 : PySem.W.isFn K (.ref fM2) = true)
    (kpM2 : PySem.W.keepIn K (.ref fM2) = true)
    (fiM2 : PySem.W.fnIn K fM2 = true)
    (lM2 : K.lookup fM2 = some ⟨ocM2, odM2, .func (PySem.W.fnOf "__getitem__" "Past.__getitem__" (defArgs sGetI) (defBody sGetI) (defScope sGetI) .none kVM2 dcM2 pmM2 anM2 cdM2 ctM2), slM2⟩)
    (cM2 : PySem.W.codeIn K cdM2 "Past.__getitem__" = true)
    (iM3 : PySem.W.findIn K (.ref CQ) "__contains__" = some (some (.ref fM3)))
    (fnM3 : PySem.W.isFn K (.ref fM3) = true)
    (kpM3 : PySem.W.keepIn K (.ref fM3) = true)
    (fiM3 : PySem.W.fnIn K fM3 = true)
    (lM3 : K.lookup fM3 = some ⟨ocM3, odM3, .func (PySem.W.fnOf "__contains__" "Past.__contains__" (defArgs sCont) (defBody sCont) (defScope sCont) .none kVM3 dcM3 pmM3 anM3 cdM3 ctM3), slM3⟩)
    (cM3 : PySem.W.codeIn K cdM3 "Past.__contains__" = true)
    (iM4 : PySem.W.findIn K (.ref CQ) "__len__" = some (some (.ref fM4)))
    (fnM4 : PySem.W.isFn K (.ref fM4) = true)
    (kpM4 : PySem.W.keepIn K (.ref fM4) = true)
    (fiM4 : PySem.W.fnIn K fM4 = true)
    (lM4 : K.lookup fM4 = some ⟨ocM4, odM4, .func (PySem.W.fnOf "__len__" "Past.__len__" (defArgs sLen_) (defBody sLen_) (defScope sLen_) .none kVM4 dcM4 pmM4 anM4 cdM4 ctM4), slM4⟩)
    (cM4 : PySem.W.codeIn K cdM4 "Past.__len__" = true)
    (iM6 : PySem.W.findIn K (.ref CQ) "listed" = some (some (.ref fM6)))
    (fnM6 : PySem.W.isFn K (.ref fM6) = true)
    (kpM6 : PySem.W.keepIn K (.ref fM6) = true)
    (fiM6 : PySem.W.fnIn K fM6 = true)
    (lM6 : K.lookup fM6 = some ⟨ocM6, odM6, .func (PySem.W.fnOf "listed" "Past.listed" (defArgs sListed) (defBody sListed) (defScope sListed) .none kVM6 dcM6 pmM6 anM6 cdM6 ctM6), slM6⟩)
    (cM6 : PySem.W.codeIn K cdM6 "Past.listed" = true)
    (iM7 : PySem.W.findIn K (.ref CQ) "__eq__" = some (some (.ref fM7)))
    (fnM7 : PySem.W.isFn K (.ref fM7) = true)
    (kpM7 : PySem.W.keepIn K (.ref fM7) = true)
    (fiM7 : PySem.W.fnIn K fM7 = true)
    (lM7 : K.lookup fM7 = some ⟨ocM7, odM7, .func (PySem.W.fnOf "__eq__" "Past.__eq__" (defArgs sEq_) (defBody sEq_) (defScope sEq_) .none kVM7 dcM7 pmM7 anM7 cdM7 ctM7), slM7⟩)
    (cM7 : PySem.W.codeIn K cdM7 "Past.__eq__" = true)
    (iM8 : PySem.W.findIn K (.ref CQ) "with_deed" = some (some (.ref fM8)))
    (fnM8 : PySem.W.isFn K (.ref fM8) = true)
    (kpM8 : PySem.W.keepIn K (.ref fM8) = true)
    (fiM8 : PySem.W.fnIn K fM8 = true)
    (lM8 : K.lookup fM8 = some ⟨ocM8, odM8, .func (PySem.W.fnOf "with_deed" "Past.with_deed" (defArgs sWith) (defBody sWith) (defScope sWith) .none kVM8 dcM8 pmM8 anM8 cdM8 ctM8), slM8⟩)
    (cM8 : PySem.W.codeIn K cdM8 "Past.with_deed" = true)
    (iM9 : PySem.W.findIn K (.ref CQ) "without" = some (some (.ref fM9)))
    (fnM9 : PySem.W.isFn K (.ref fM9) = true)
    (kpM9 : PySem.W.keepIn K (.ref fM9) = true)
    (fiM9 : PySem.W.fnIn K fM9 = true)
    (lM9 : K.lookup fM9 = some ⟨ocM9, odM9, .func (PySem.W.fnOf "without" "Past.without" (defArgs sWithout) (defBody sWithout) (defScope sWithout) .none kVM9 dcM9 pmM9 anM9 cdM9 ctM9), slM9⟩)
    (cM9 : PySem.W.codeIn K cdM9 "Past.without" = true) : LawM l w K mg fa h 17 (fun cs => spLaw K (tbOf cs)) := by
  obtain ⟨f0, fd0, n0_, F0⟩ := A0
  obtain ⟨f1, fd1, n1_, F1⟩ := A1
  obtain ⟨f2, fd2, n2_, F2⟩ := A2
  obtain ⟨f3, fd3, n3_, F3⟩ := A3
  obtain ⟨f4, fd4, n4_, F4⟩ := A4
  obtain ⟨f5, fd5, n5_, F5⟩ := A5
  obtain ⟨f6, fd6, n6_, F6⟩ := A6
  obtain ⟨f7, fd7, n7_, F7⟩ := A7
  obtain ⟨f8, fd8, n8_, F8⟩ := A8
  obtain ⟨f9, fd9, n9_, F9⟩ := A9
  obtain ⟨f10, fd10, n10_, F10⟩ := A10
  obtain ⟨f11, fd11, n11_, F11⟩ := A11
  obtain ⟨f12, fd12, n12_, F12⟩ := A12
  obtain ⟨f13, fd13, n13_, F13⟩ := A13
  obtain ⟨f14, fd14, n14_, F14⟩ := A14
  obtain ⟨f15, fd15, n15_, F15⟩ := A15
  obtain ⟨f16, fd16, n16_, F16⟩ := A16
  obtain ⟨f17, fd17, n17_, F17⟩ := A17
  obtain ⟨f18, fd18, n18_, F18⟩ := A18
  obtain ⟨f19, fd19, n19_, F19⟩ := A19
  obtain ⟨f20, fd20, n20_, F20⟩ := A20
  obtain ⟨f21, fd21, n21_, F21⟩ := A21
  obtain ⟨f22, fd22, n22_, F22⟩ := A22
  obtain ⟨f23, fd23, n23_, F23⟩ := A23
  obtain ⟨f24, fd24, n24_, F24⟩ := A24
  obtain ⟨f25, fd25, n25_, F25⟩ := A25
  obtain ⟨f26, fd26, n26_, F26⟩ := A26
  obtain ⟨f27, fd27, n27_, F27⟩ := A27
  obtain ⟨f28, fd28, n28_, F28⟩ := A28
  have M0 := PySem.W.mg_of X G n0_
  have b0 := F0.binds (ps := ["value"]) fun _ _ _ _ _ _ us hl => match us, hl with | [_], _ => rfl
  have M1 := PySem.W.mg_of X G n1_
  have b1 := F1.binds (ps := ["value", "least", "most"]) fun _ _ _ _ _ _ us hl => match us, hl with | [_, _, _], _ => rfl
  have M2 := PySem.W.mg_of X G n2_
  have b2 := F2.binds (ps := ["value"]) fun _ _ _ _ _ _ us hl => match us, hl with | [_], _ => rfl
  have M3 := PySem.W.mg_of X G n3_
  have b3 := F3.binds (ps := ["value"]) fun _ _ _ _ _ _ us hl => match us, hl with | [_], _ => rfl
  have M4 := PySem.W.mg_of X G n4_
  have b4 := F4.binds (ps := ["value"]) fun _ _ _ _ _ _ us hl => match us, hl with | [_], _ => rfl
  have M5 := PySem.W.mg_of X G n5_
  have b5 := F5.binds (ps := ["value"]) fun _ _ _ _ _ _ us hl => match us, hl with | [_], _ => rfl
  have M6 := PySem.W.mg_of X G n6_
  have b6 := F6.binds (ps := ["value"]) fun _ _ _ _ _ _ us hl => match us, hl with | [_], _ => rfl
  have M7 := PySem.W.mg_of X G n7_
  have b7 := F7.binds (ps := ["value"]) fun _ _ _ _ _ _ us hl => match us, hl with | [_], _ => rfl
  have M8 := PySem.W.mg_of X G n8_
  have b8 := F8.binds (ps := ["parts"]) fun _ _ _ _ _ _ us hl => match us, hl with | [_], _ => rfl
  have M9 := PySem.W.mg_of X G n9_
  have b9 := F9.binds (ps := ["parts"]) fun _ _ _ _ _ _ us hl => match us, hl with | [_], _ => rfl
  have M10 := PySem.W.mg_of X G n10_
  have b10 := F10.binds (ps := ["parts"]) fun _ _ _ _ _ _ us hl => match us, hl with | [_], _ => rfl
  have M11 := PySem.W.mg_of X G n11_
  have b11 := F11.binds (ps := ["parts"]) fun _ _ _ _ _ _ us hl => match us, hl with | [_], _ => rfl
  have M12 := PySem.W.mg_of X G n12_
  have b12 := F12.binds (ps := ["parts"]) fun _ _ _ _ _ _ us hl => match us, hl with | [_], _ => rfl
  have M13 := PySem.W.mg_of X G n13_
  have b13 := F13.binds (ps := ["value"]) fun _ _ _ _ _ _ us hl => match us, hl with | [_], _ => rfl
  have M14 := PySem.W.mg_of X G n14_
  have b14 := F14.binds (ps := ["value"]) fun _ _ _ _ _ _ us hl => match us, hl with | [_], _ => rfl
  have M15 := PySem.W.mg_of X G n15_
  have b15 := F15.binds (ps := ["deed"]) fun _ _ _ _ _ _ us hl => match us, hl with | [_], _ => rfl
  have M16 := PySem.W.mg_of X G n16_
  have b16 := F16.binds (ps := ["_law_script", "_law_k"]) fun _ _ _ _ _ _ us hl => match us, hl with | [_, _], _ => rfl
  have M17 := PySem.W.mg_of X G n17_
  have b17 := F17.binds (ps := ["_law_source", "_law_top"]) fun _ _ _ _ _ _ us hl => match us, hl with | [_, _], _ => rfl
  have M18 := PySem.W.mg_of X G n18_
  have b18 := F18.binds (ps := ["_law_source", "_law_things"]) fun _ _ _ _ _ _ us hl => match us, hl with | [_, _], _ => rfl
  have M19 := PySem.W.mg_of X G n19_
  have b19 := F19.binds (ps := ["_law_source", "_law_things"]) fun _ _ _ _ _ _ us hl => match us, hl with | [_, _], _ => rfl
  have M20 := PySem.W.mg_of X G n20_
  have b20 := F20.binds (ps := ["_law_script"]) fun _ _ _ _ _ _ us hl => match us, hl with | [_], _ => rfl
  have M21 := PySem.W.mg_of X G n21_
  have b21 := F21.binds (ps := ["_law_source"]) fun _ _ _ _ _ _ us hl => match us, hl with | [_], _ => rfl
  have M22 := PySem.W.mg_of X G n22_
  have b22 := F22.binds (ps := ["_law_source"]) fun _ _ _ _ _ _ us hl => match us, hl with | [_], _ => rfl
  have M23 := PySem.W.mg_of X G n23_
  have b23 := F23.binds (ps := ["_law_source", "_law_names"]) fun _ _ _ _ _ _ us hl => match us, hl with | [_, _], _ => rfl
  have M24 := PySem.W.mg_of X G n24_
  have b24 := F24.binds (ps := ["_law_source", "_law_moment", "_law_names", "_law_keys"]) fun _ _ _ _ _ _ us hl => match us, hl with | [_, _, _, _], _ => rfl
  have M25 := PySem.W.mg_of X G n25_
  have b25 := F25.binds (ps := ["_law_source", "_law_most"]) fun _ _ _ _ _ _ us hl => match us, hl with | [_, _], _ => rfl
  have M26 := PySem.W.mg_of X G n26_
  have b26 := F26.binds (ps := ["_law_call"]) fun _ _ _ _ _ _ us hl => match us, hl with | [_], _ => rfl
  have M27 := PySem.W.mg_of X G n27_
  have b27 := F27.binds (ps := ["_law_past", "_law_due"]) fun _ _ _ _ _ _ us hl => match us, hl with | [_, _], _ => rfl
  have M28 := PySem.W.mg_of X G n28_
  have b28 := F28.binds (ps := ["_law_script"]) fun _ _ _ _ _ _ us hl => match us, hl with | [_], _ => rfl
  have e := hfa.symm.trans M28
  cases e
  have T : Cst K mg := ⟨(PySem.W.mg_none_of X G z_isinstance), (PySem.W.mg_none_of X G z_len), (PySem.W.mg_none_of X G z_all), (PySem.W.mg_none_of X G z_set), (PySem.W.mg_none_of X G z_int), (PySem.W.mg_none_of X G z_bool), (PySem.W.mg_none_of X G z_str), (PySem.W.mg_none_of X G z_tuple), (PySem.W.mg_none_of X G z_sorted), ⟨_, PySem.W.mg_of X G g_FIRST_MOMENT⟩, ⟨_, PySem.W.mg_of X G g_LAST_MOMENT⟩, ⟨_, PySem.W.mg_of X G g_LAST_VALUE⟩, ⟨_, PySem.W.mg_of X G g_LONGEST_NAME⟩, ⟨_, PySem.W.mg_of X G g_MOST_PAIRS⟩, ⟨_, PySem.W.mg_of X G g_LETTERS⟩⟩
  have T2 : Cs2 mg := ⟨(PySem.W.mg_none_of X G z_max), (PySem.W.mg_none_of X G z_min), (PySem.W.mg_none_of X G z_list), (PySem.W.mg_none_of X G z_range), (PySem.W.mg_none_of X G z_repr), (PySem.W.mg_none_of X G z_dict)⟩
  have T3 : Cs3 mg := ⟨(PySem.W.mg_none_of X G z_enumerate), ⟨_, PySem.W.mg_of X G g_MOST_DEEDS⟩⟩
  have sKe : ∀ H : Hp, SqT K H aK keysV := fun H => .inr ⟨_, _, nK, lK, rfl, rfl, (by show 10 ≤ sizeLine; decide), .cons ⟨_, rfl⟩ (.cons ⟨_, rfl⟩ (.cons ⟨_, rfl⟩ (.cons ⟨_, rfl⟩ (.cons ⟨_, rfl⟩ (.cons ⟨_, rfl⟩ (.cons ⟨_, rfl⟩ (.cons ⟨_, rfl⟩ (.cons ⟨_, rfl⟩ (.cons ⟨_, rfl⟩ (.nil))))))))))⟩
  have TF : FormsT K w mg dF g1 g2 g3 g4 g5 := ⟨PySem.W.mg_of X G nF_, ⟨_, nF, lF, litF, lowF⟩, fun x => forms_get lF x⟩
  have oxd : OexC K C_d := ⟨⟨_, _, _, _, _, _, _, _, _, _, _, _, _, _, _, xLd, by rfl⟩, x5d, x3d, x6d, x7d⟩
  have TEd : ErrN K mg "NoDeed" C_d fI_d := ⟨oxd, PySem.W.mg_of X G nCd, iId, tId, nTd⟩
  have FId := fun_mk (st := inClass (top 2) 0) lId cId kId
  have bId := FId.binds (ps := ["self", "told"]) fun _ _ _ _ _ _ us hl => match us, hl with | [_, _], _ => rfl
  have ESd : ErrS K mg "NoDeed" "told" C_d := ⟨PySem.W.mg_of X G nCd, ⟨x1d, x2d, x3d, x4d⟩, nTd⟩
  have oxp : OexC K C_p := ⟨⟨_, _, _, _, _, _, _, _, _, _, _, _, _, _, _, xLp, by rfl⟩, x5p, x3p, x6p, x7p⟩
  have TEp : ErrN K mg "NoPast" C_p fI_p := ⟨oxp, PySem.W.mg_of X G nCp, iIp, tIp, nTp⟩
  have FIp := fun_mk (st := inClass (top 3) 0) lIp cIp kIp
  have bIp := FIp.binds (ps := ["self", "told"]) fun _ _ _ _ _ _ us hl => match us, hl with | [_, _], _ => rfl
  have ESp : ErrS K mg "NoPast" "told" C_p := ⟨PySem.W.mg_of X G nCp, ⟨x1p, x2p, x3p, x4p⟩, nTp⟩
  have oxm : OexC K C_m := ⟨⟨_, _, _, _, _, _, _, _, _, _, _, _, _, _, _, xLm, by rfl⟩, x5m, x3m, x6m, x7m⟩
  have TEm : ErrN K mg "NoMoment" C_m fI_m := ⟨oxm, PySem.W.mg_of X G nCm, iIm, tIm, nTm⟩
  have FIm := fun_mk (st := inClass (top 4) 0) lIm cIm kIm
  have bIm := FIm.binds (ps := ["self", "told"]) fun _ _ _ _ _ _ us hl => match us, hl with | [_, _], _ => rfl
  have ESm : ErrS K mg "NoMoment" "told" C_m := ⟨PySem.W.mg_of X G nCm, ⟨x1m, x2m, x3m, x4m⟩, nTm⟩
  have oxt : OvC K C_t := ⟨⟨_, _, _, _, _, _, _, _, _, _, _, _, _, _, xLt⟩, x5t, x3t, x6t, x7t⟩
  have TEt : ErrO K mg C_t fI_t := ⟨oxt, PySem.W.mg_of X G nCt, iIt, tIt, nTt⟩
  have FIt := fun_mk (st := inClass (top 5) 0) lIt cIt kIt
  have bIt := FIt.binds (ps := ["self", "most"]) fun _ _ _ _ _ _ us hl => match us, hl with | [_, _], _ => rfl
  have ESt : ErrS K mg "TooMany" "most" C_t := ⟨PySem.W.mg_of X G nCt, ⟨x1t, x2t, x3t, x4t⟩, nTt⟩
  have TEd0 : ErrT K mg C_d fI_d := ⟨oxd, PySem.W.mg_of X G nCd, iId, tId, nTd⟩
  have S : Tri K mg ⟨C_p, C_d, C_m, C_t⟩ := ⟨ESp, ESd, ESm, ESt, PySem.W.exm_ref x3p x4p x6p spp, PySem.W.exm_ref x3p x4p x6p sdp, PySem.W.exm_ref x3d x4d x6d sdd, PySem.W.exm_ref x3p x4p x6p smp, PySem.W.exm_ref x3d x4d x6d smd, PySem.W.exm_ref x3m x4m x6m smm, PySem.W.exm_ref x3p x4p x6p stp, PySem.W.exm_ref x3d x4d x6d std, PySem.W.exm_ref x3m x4m x6m stm, PySem.W.exm_ref x3t x4t x6t stt⟩
  obtain ⟨oc', od', kV', doc', pm', an', cdv', ct', osl', rfl, lk', hcd'⟩ := F28.ex
  have FL := fun_mk (st := sLaw) lk' hcd' F28.kp
  refine ⟨PySem.W.fnOf "law" "law" (defArgs sLaw) (defBody sLaw) (defScope sLaw) .none kV' doc' pm' an' cdv' ct', [(ct1, Pt1), (ct2, Pt2), (ct3, Pt3), (ct4, Pt4), (ct5, Pt5)], (all5 tab1 tab2 tab3 tab4 tab5), (all5 notK1 notK2 notK3 notK4 notK5), (all5 (PySem.W.codeHd_of_K X hcd1) (PySem.W.codeHd_of_K X hcd2) (PySem.W.codeHd_of_K X hcd3) (PySem.W.codeHd_of_K X hcd4) (PySem.W.codeHd_of_K X hcd5)), fun s v => .of_eq rfl, fun base _ _ TB => ?_⟩
  have Tb_ : tbOf [(ct1, Pt1), (ct2, Pt2), (ct3, Pt3), (ct4, Pt4), (ct5, Pt5)] = [(Pt1, lamK), (Pt2, lamN), (Pt3, lamC), (Pt4, lamF), (Pt5, lamU)] := tbX5
  show FnG l.prog w K mg base 17 _ _ _ (spLaw K (tbOf [(ct1, Pt1), (ct2, Pt2), (ct3, Pt3), (ct4, Pt4), (ct5, Pt5)]))
  rw [Tb_]
  have TB1 : LamX.TabB base mg ct1 Pt1 := TB (ct1, Pt1) hm1
  have TB2 : LamX.TabB base mg ct2 Pt2 := TB (ct2, Pt2) hm2
  have TB3 : LamX.TabB base mg ct3 Pt3 := TB (ct3, Pt3) hm3
  have TB4 : LamX.TabB base mg ct4 Pt4 := TB (ct4, Pt4) hm4
  have TB5 : LamX.TabB base mg ct5 Pt5 := TB (ct5, Pt5) hm5
  have D0 : Df l.prog w K mg base 1 "is_number" ["value"] (spP isNum) := ⟨f0, fd0, ok_number F0 T, M0, F0.kp, b0⟩
  have D1 : Df l.prog w K mg base 2 "is_within" ["value", "least", "most"] spW := ⟨f1, fd1, ok_within F1 D0, M1, F1.kp, b1⟩
  have D2 : Df l.prog w K mg base 3 "is_moment" ["value"] (spP pMom) := ⟨f2, fd2, ok_moment F2 T D1, M2, F2.kp, b2⟩
  have D3 : Df l.prog w K mg base 3 "is_value" ["value"] (spP pVal) := ⟨f3, fd3, ok_value F3 T D1, M3, F3.kp, b3⟩
  have D4 : Df l.prog w K mg base 2 "is_key" ["value"] (spP pKey) := ⟨f4, fd4, ok_key F4 (PySem.W.mg_of X G nK_) sKe D0, M4, F4.kp, b4⟩
  have D5 : Df l.prog w K mg base 1 "is_name" ["value"] (spP isName) := ⟨f5, fd5, ok_name F5 T, M5, F5.kp, b5⟩
  have D6 : Df l.prog w K mg base 4 "_is_pair" ["value"] (spP isPair) := ⟨f6, fd6, ok_pair F6 T D5 D3, M6, F6.kp, b6⟩
  have D7 : Df l.prog w K mg base 5 "_are_pairs" ["value"] (spP arePairs) := ⟨f7, fd7, ok_are F7 T D6, M7, F7.kp, b7⟩
  have q1_ : g1 = f8 := Value.ref.inj (Option.some.inj (Option.some.inj (m1.symm.trans n8_)))
  have h1_ : Held l.prog w K mg base 6 g1 _ := ⟨fd8, ["parts"], q1_ ▸ (ok_put F8 T D4 D7).mono (by decide), q1_ ▸ F8.kp, b8⟩
  have q2_ : g2 = f9 := Value.ref.inj (Option.some.inj (Option.some.inj (m2.symm.trans n9_)))
  have h2_ : Held l.prog w K mg base 6 g2 _ := ⟨fd9, ["parts"], q2_ ▸ (ok_strike F9 T D4).mono (by decide), q2_ ▸ F9.kp, b9⟩
  have q3_ : g3 = f10 := Value.ref.inj (Option.some.inj (Option.some.inj (m3.symm.trans n10_)))
  have h3_ : Held l.prog w K mg base 6 g3 _ := ⟨fd10, ["parts"], q3_ ▸ (ok_add F10 T D5 D3).mono (by decide), q3_ ▸ F10.kp, b10⟩
  have q4_ : g4 = f11 := Value.ref.inj (Option.some.inj (Option.some.inj (m4.symm.trans n11_)))
  have h4_ : Held l.prog w K mg base 6 g4 _ := ⟨fd11, ["parts"], q4_ ▸ (ok_drop F11 T D5).mono (by decide), q4_ ▸ F11.kp, b11⟩
  have q5_ : g5 = f12 := Value.ref.inj (Option.some.inj (Option.some.inj (m5.symm.trans n12_)))
  have h5_ : Held l.prog w K mg base 6 g5 _ := ⟨fd12, ["parts"], q5_ ▸ (ok_rename F12 T D5 D5).mono (by decide), q5_ ▸ F12.kp, b12⟩
  have D13 : Df l.prog w K mg base 7 "is_deed" ["value"] (spP isDeed) := ⟨f13, fd13, ok_deed F13 T D2 TF (form_of TF h1_ h2_ h3_ h4_ h5_), M13, F13.kp, b13⟩
  have GI := ok_init (P := l.prog) (w := w) (mg := mg) (base := base) FId
  have D14 : DfX l.prog w K mg base 8 "_check_deed" ["value"] (spD C_d fun _ _ H Q => ∀ H', Same H H' → Q .non H') := ⟨f14, fd14, ok_check F14 TEd0 GI bId D13, M14, F14.kp, b14⟩
  have D15 : DfX l.prog w K mg base 9 "in_order" ["deed"] (spOrd C_d) := ⟨f15, fd15, ok_inorder F15 T D14, M15, F15.kp, b15⟩
  have D16 : Df l.prog w K mg base 1 "_law_pool" ["_law_script", "_law_k"] (spPool K) := ⟨f16, fd16, ok_pool F16 T T2, M16, F16.kp, b16⟩
  have D17 : Df l.prog w K mg base 1 "_law_take" ["_law_source", "_law_top"] spTake := ⟨f17, fd17, ok_take F17 T, M17, F17.kp, b17⟩
  have D18 : Df l.prog w K mg base 2 "_law_one" ["_law_source", "_law_things"] spOne := ⟨f18, fd18, ok_one F18 T D17, M18, F18.kp, b18⟩
  have D19 : Df l.prog w K mg base 2 "_law_turned" ["_law_source", "_law_things"] spTurned := ⟨f19, fd19, ok_turned F19 T T2 D17, M19, F19.kp, b19⟩
  have D20 : Df l.prog w K mg base 1 "_law_rounds" ["_law_script"] (spRounds K) := ⟨f20, fd20, ok_rounds F20 T T2, M20, F20.kp, b20⟩
  have D21 : Df l.prog w K mg base 3 "_law_called" ["_law_source"] spCalled := ⟨f21, fd21, ok_called F21 D18, M21, F21.kp, b21⟩
  have D22 : Df l.prog w K mg base 3 "_law_number" ["_law_source"] spNumber := ⟨f22, fd22, ok_drawn F22 D18, M22, F22.kp, b22⟩
  have D23 : Df l.prog w K mg base 4 "_law_pairs" ["_law_source", "_law_names"] spPairs := ⟨f23, fd23, ok_pairs F23 T D17 D19 D22, M23, F23.kp, b23⟩
  have D24 : Df l.prog w K mg base 5 "_law_deed" ["_law_source", "_law_moment", "_law_names", "_law_keys"] spDeed := ⟨f24, fd24, ok_drawdeed F24 D18 D22 D23, M24, F24.kp, b24⟩
  have D25 : Df l.prog w K mg base 6 "_law_deeds" ["_law_source", "_law_most"] spDeeds := ⟨f25, fd25, ok_deeds F25 T2 D17 D18 D22 D21 D24, M25, F25.kp, b25⟩
  have MKd : MakN l.prog w K mg base "NoDeed" C_d := ⟨fI_d, _, TEd, ok_init FId, bId⟩
  have MKp : MakN l.prog w K mg base "NoPast" C_p := ⟨fI_p, _, TEp, ok_init3 FIp, bIp⟩
  have MKm : MakN l.prog w K mg base "NoMoment" C_m := ⟨fI_m, _, TEm, ok_init4 FIm, bIm⟩
  have MKt : MakO l.prog w K mg base C_t := ⟨fI_t, _, TEt, ok_init5 FIt, bIt⟩
  have PC : PstC K CQ := ⟨⟨cQ1, cQ2, cQ3, cQ4⟩, aQ1, aQ2⟩
  have hQ5 : PySem.W.kitOne K (.ref CQ) (.ref CQ) = some true := if_pos (beq_self_eq_true _)
  have IC : C8.InsC K CQ := ⟨⟨cQ1, cQ2, cQ3, cQ4⟩, hQ1, hQ2, hQ3, hQ4, hQ5⟩
  have FQ : FunD K "__init__" "Past.__init__" (defArgs sPInit) (defBody sPInit) (defScope sPInit) [.ref a0Q] [] fQ (PySem.W.fnOf "__init__" "Past.__init__" (defArgs sPInit) (defBody sPInit) (defScope sPInit) (.ref TdQ) kVQ dcQ pmQ anQ cdQ ctQ) := ⟨⟨ocQ, odQ, _, kVQ, dcQ, pmQ, anQ, cdQ, ctQ, slQ, rfl, lQ, ccQ, .inr ⟨by simp, TdQ, _, [.ref a0Q], nQ, rfl, tQ, rfl, .cons rfl .nil⟩, .inl rfl⟩, kfQ⟩
  have OQ := ok_pinit (C := CQ) (CP := C_p) (CT := C_t) (CD := C_d) FQ T T2 T3 PC MKp MKt D13 D15
  obtain ⟨dsa, va, ba⟩ := FQ.binds1 (ps := ["self", "deeds"]) 2 1 (by simp) rfl (fun _ _ _ _ _ _ _ us its hl hi => match us, its, hl, hi with | [_, _], [_], _, _ => ⟨_, rfl, rfl⟩)
  have ea : dsa = [] := List.length_eq_zero_iff.mp (show ([] : List V).length = dsa.length from Vals.length va).symm
  subst ea
  obtain ⟨dsb, vb, bb⟩ := FQ.binds1 (ps := ["self", "deeds"]) 1 0 (by simp) rfl (fun _ _ _ _ _ _ _ us its hl hi => match us, its, hl, hi with | [_], [_], _, _ => ⟨_, rfl, rfl⟩)
  have MkQ : Mk K CQ fQ := ⟨mkQ, inQ, fnQ, kpQ⟩
  have hCQ := PySem.W.mg_of X G nQ_
  have MP : MkP l.prog w K mg base CQ C_p C_t := ⟨fQ, _, MkQ, OQ, hCQ, ba⟩
  have MP0 : Mk0P l.prog w K mg base CQ C_p C_t := ⟨fQ, _, a0Q, dsb, MkQ, OQ, hCQ, bb, vb, fun G => ⟨.kTuple t0Q rfl, .inr ⟨_, _, nA, t0Q, rfl, rfl, Nat.zero_le _, .nil⟩⟩⟩
  have FM1 := fun_mk (st := sDeeds_) lM1 cM1 kpM1
  have bM1 := FM1.binds (ps := ["self"]) fun _ _ _ _ _ _ us hl => match us, hl with | [_], _ => rfl
  have FM2 := fun_mk (st := sGetI) lM2 cM2 kpM2
  have bM2 := FM2.binds (ps := ["self", "at"]) fun _ _ _ _ _ _ us hl => match us, hl with | [_, _], _ => rfl
  have FM3 := fun_mk (st := sCont) lM3 cM3 kpM3
  have bM3 := FM3.binds (ps := ["self", "x"]) fun _ _ _ _ _ _ us hl => match us, hl with | [_, _], _ => rfl
  have FM4 := fun_mk (st := sLen_) lM4 cM4 kpM4
  have bM4 := FM4.binds (ps := ["self"]) fun _ _ _ _ _ _ us hl => match us, hl with | [_], _ => rfl
  have FM6 := fun_mk (st := sListed) lM6 cM6 kpM6
  have bM6 := FM6.binds (ps := ["self"]) fun _ _ _ _ _ _ us hl => match us, hl with | [_], _ => rfl
  have FM7 := fun_mk (st := sEq_) lM7 cM7 kpM7
  have bM7 := FM7.binds (ps := ["self", "other"]) fun _ _ _ _ _ _ us hl => match us, hl with | [_, _], _ => rfl
  have FM8 := fun_mk (st := sWith) lM8 cM8 kpM8
  have bM8 := FM8.binds (ps := ["self", "deed"]) fun _ _ _ _ _ _ us hl => match us, hl with | [_, _], _ => rfl
  have FM9 := fun_mk (st := sWithout) lM9 cM9 kpM9
  have bM9 := FM9.binds (ps := ["self", "moment"]) fun _ _ _ _ _ _ us hl => match us, hl with | [_, _], _ => rfl
  have X1 : MetC l.prog w K mg base CX0 CQ "deeds" 1 ["self"] (spDs CQ) := ⟨fM1, _, ok_pdeeds FM1 PC, ⟨iM1, fnM1, kpM1⟩, bM1, fiM1⟩
  have X6 : MetC l.prog w K mg base CX0 CQ "listed" 1 ["self"] (spLst CQ) := ⟨fM6, _, ok_plisted FM6 T2 PC, ⟨iM6, fnM6, kpM6⟩, bM6, fiM6⟩
  have X4 : MetC l.prog w K mg base CX0 CQ "__len__" 1 ["self"] (spLn CQ) := ⟨fM4, _, ok_plen FM4 T PC, ⟨iM4, fnM4, kpM4⟩, bM4, fiM4⟩
  have X3 : MetC l.prog w K mg base CX0 CQ "__contains__" 2 ["self", "x"] (spCont CQ) := ⟨fM3, _, ok_pcont FM3 PC D0, ⟨iM3, fnM3, kpM3⟩, bM3, fiM3⟩
  have X2 : MetC l.prog w K mg base (L2.CX l.prog w) CQ "__getitem__" 3 ["self", "at"] (spGet CQ C_m) := ⟨fM2, _, ok_pget FM2 PC MKm X3, ⟨iM2, fnM2, kpM2⟩, bM2, fiM2⟩
  have X7 : MetC l.prog w K mg base CX0 CQ "__eq__" 1 ["self", "other"] (spEqP K CQ) := ⟨fM7, _, ok_peq FM7 T PC IC hCQ, ⟨iM7, fnM7, kpM7⟩, bM7, fiM7⟩
  have X8 : MetC l.prog w K mg base (L2.CX l.prog w) CQ "with_deed" 12 ["self", "deed"] (spWith CQ C_d C_m C_t) := ⟨fM8, _, ok_pwith FM8 PC MP MKd MKm D13 X1, ⟨iM8, fnM8, kpM8⟩, bM8, fiM8⟩
  have X9 : MetC l.prog w K mg base (L2.CX l.prog w) CQ "without" 12 ["self", "moment"] (spWo CQ C_m) := ⟨fM9, _, ok_pwithout FM9 PC MP MKm X3, ⟨iM9, fnM9, kpM9⟩, bM9, fiM9⟩
  have XD : PsD l.prog w K mg base CQ C_m := ⟨PC, X1, X6, X4, X3, X2⟩
  have XX : PsX l.prog w K mg base CQ C_d C_m C_p C_t := ⟨XD, X8, X9, X7, MP, IC, hQ6, hQ7, hQ8, hQ9⟩
  have D27 : DfG l.prog w K mg base 6 "_law_is_past" ["_law_past", "_law_due"] (spIsP CQ) := ⟨f27, fd27, ok_ispast F27 T T2 XD, M27, F27.kp, b27⟩
  have DKP : DfG l.prog w K mg base 4 "_law_kept" ["_law_deeds_here"] (spKept [(Pt1, lamK), (Pt2, lamN), (Pt3, lamC), (Pt4, lamF), (Pt5, lamU)]) := ⟨ft1, _, ok_kept ⟨oct1, odt1, kVt1, dct1, pmt1, ant1, ctt1, slt1, rfl, lt1, ck1⟩ T TB1 hm1 (hu1 ne12 ne13 ne14 ne15), PySem.W.mg_of X G nt1, kk1, .all fun us hl => match us, hl with | [_], _ => rfl⟩
  have DNO : DfG l.prog w K mg base 16 "_law_none_there" ["_law_source", "_law_past", "_law_due"] (spNone [(Pt1, lamK), (Pt2, lamN), (Pt3, lamC), (Pt4, lamF), (Pt5, lamU)] CQ) := ⟨ft2, _, ok_none (c := ⟨C_p, C_d, C_m, C_t⟩) ⟨oct2, odt2, kVt2, dct2, pmt2, ant2, ctt2, slt2, rfl, lt2, ck2⟩ T T2 S TB2 hm2 (hu2 ne12 ne23 ne24 ne25) F26 M26 b26 D18 XX, PySem.W.mg_of X G nt2, kk2, .all fun us hl => match us, hl with | [_, _, _], _ => rfl⟩
  have DCH : DfG l.prog w K mg base 16 "_law_changes_right" ["_law_source", "_law_past", "_law_due"] (spCh [(Pt1, lamK), (Pt2, lamN), (Pt3, lamC), (Pt4, lamF), (Pt5, lamU)] CQ) := ⟨ft3, _, ok_chg (c := ⟨C_p, C_d, C_m, C_t⟩) ⟨oct3, odt3, kVt3, dct3, pmt3, ant3, ctt3, slt3, rfl, lt3, ck3⟩ T T2 S TB3 hm3 (hu3 ne13 ne23 ne34 ne35) F26 M26 b26 D18 D27 DKP XX, PySem.W.mg_of X G nt3, kk3, .all fun us hl => match us, hl with | [_, _, _], _ => rfl⟩
  have DRF : DfG l.prog w K mg base 16 "_law_refused_right" ["_law_source", "_law_deeds_here"] (spRf [(Pt1, lamK), (Pt2, lamN), (Pt3, lamC), (Pt4, lamF), (Pt5, lamU)]) := ⟨ft4, _, ok_ref (c := ⟨C_p, C_d, C_m, C_t⟩) ⟨oct4, odt4, kVt4, dct4, pmt4, ant4, ctt4, slt4, rfl, lt4, ck4⟩ T T2 S TB4 hm4 (hu4 ne14 ne24 ne34 ne45) F26 M26 b26 D18 D17 XX, PySem.W.mg_of X G nt4, kk4, .all fun us hl => match us, hl with | [_, _], _ => rfl⟩
  have DFU : DfG l.prog w K mg base 16 "_law_full_right" [] (spFull [(Pt1, lamK), (Pt2, lamN), (Pt3, lamC), (Pt4, lamF), (Pt5, lamU)]) := ⟨ft5, _, ok_full (c := ⟨C_p, C_d, C_m, C_t⟩) ⟨oct5, odt5, kVt5, dct5, pmt5, ant5, ctt5, slt5, rfl, lt5, ck5⟩ T T2 S TB5 hm5 (hu5 ne15 ne25 ne35 ne45) F26 M26 b26 XX MP0, PySem.W.mg_of X G nt5, kk5, .all fun us hl => match us, hl with | [], _ => rfl⟩
  exact ok_law (c := ⟨C_p, C_d, C_m, C_t⟩) FL T T2 D16 D20 D19 D25 DKP D27 DNO DCH DRF DFU XX
end Pl

open PyProof.Rows PySem PySem.W in
set_option maxRecDepth 100001 in
set_option maxHeartbeats 0 in
theorem PySem.Challenge.cw_plainstore_k02_pasts_made_and_changed_holds : PySem.Challenge.rw_plainstore_k02_pasts_made_and_changed.Holds := by
  (w_on; o_law; k_head); (case hw => w_witness2)
  k_fill
  refine Pl.walkP (l := PySem.Challenge.rw_plainstore_k02_pasts_made_and_changed) rfl (by decide) rfl (fun w h Y => km_in_of Y) ?F
  case F =>
    intro w mg fa h Y KX G hmg
    refine' Pl.all_mk KX G hmg ?A0 ?A1 ?A2 ?A3 ?A4 ?A5 ?A6 ?A7 ?A8 ?A9 ?A10 ?A11 ?A12 ?A13 ?A14 ?A15 ?A16 ?A17 ?A18 ?A19 ?A20 ?A21 ?A22 ?A23 ?A24 ?A25 ?A26 ?A27 ?A28 ?z_isinstance ?z_len ?z_all ?z_set ?z_int ?z_bool ?z_str ?z_tuple ?z_sorted ?z_max ?z_min ?z_list ?z_range ?z_repr ?z_dict ?z_enumerate ?g_FIRST_MOMENT ?g_LAST_MOMENT ?g_LAST_VALUE ?g_LONGEST_NAME ?g_MOST_PAIRS ?g_LETTERS ?g_MOST_DEEDS ?nK_ ?lK ?nF_ ?lF ?litF ?lowF ?m1 ?m2 ?m3 ?m4 ?m5 ?nt1 ?lt1 ?ck1 ?kk1 ?lc1 ?hP1 ?hcd1 ?notK1 ?tab1 ?nt2 ?lt2 ?ck2 ?kk2 ?lc2 ?hP2 ?hcd2 ?notK2 ?tab2 ?nt3 ?lt3 ?ck3 ?kk3 ?lc3 ?hP3 ?hcd3 ?notK3 ?tab3 ?nt4 ?lt4 ?ck4 ?kk4 ?lc4 ?hP4 ?hcd4 ?notK4 ?tab4 ?nt5 ?lt5 ?ck5 ?kk5 ?lc5 ?hP5 ?hcd5 ?notK5 ?tab5 ?ne12 ?ne13 ?ne14 ?ne15 ?ne23 ?ne24 ?ne25 ?ne34 ?ne35 ?ne45 ?nCd ?xLd ?x5d ?x6d ?x7d ?iId ?tId ?nTd ?lId ?cId ?kId ?x1d ?x2d ?x3d ?x4d ?nCp ?xLp ?x5p ?x6p ?x7p ?iIp ?tIp ?nTp ?lIp ?cIp ?kIp ?x1p ?x2p ?x3p ?x4p ?nCm ?xLm ?x5m ?x6m ?x7m ?iIm ?tIm ?nTm ?lIm ?cIm ?kIm ?x1m ?x2m ?x3m ?x4m ?nCt ?xLt ?x5t ?x6t ?x7t ?iIt ?tIt ?nTt ?lIt ?cIt ?kIt ?x1t ?x2t ?x3t ?x4t ?spp ?sdp ?sdd ?smp ?smd ?smm ?stp ?std ?stm ?stt ?nQ_ ?cQ1 ?cQ2 ?cQ3 ?cQ4 ?aQ1 ?aQ2 ?mkQ ?inQ ?fnQ ?kpQ ?kfQ ?lQ ?ccQ ?tQ ?t0Q ?hQ1 ?hQ2 ?hQ3 ?hQ4 ?hQ6 ?hQ7 ?hQ8 ?hQ9 ?iM1 ?fnM1 ?kpM1 ?fiM1 ?lM1 ?cM1 ?iM2 ?fnM2 ?kpM2 ?fiM2 ?lM2 ?cM2 ?iM3 ?fnM3 ?kpM3 ?fiM3 ?lM3 ?cM3 ?iM4 ?fnM4 ?kpM4 ?fiM4 ?lM4 ?cM4 ?iM6 ?fnM6 ?kpM6 ?fiM6 ?lM6 ?cM6 ?iM7 ?fnM7 ?kpM7 ?fiM7 ?lM7 ?cM7 ?iM8 ?fnM8 ?kpM8 ?fiM8 ?lM8 ?cM8 ?iM9 ?fnM9 ?kpM9 ?fiM9 ?lM9 ?cM9
    (case A0 => (refine' ⟨_, _, ?a, L2.fun_mk ?l ?c ?k⟩; (case a => k_is); (case l => k_is); (case c => k_is); (case k => k_is)))
    (case A1 => (refine' ⟨_, _, ?a, L2.fun_mk ?l ?c ?k⟩; (case a => k_is); (case l => k_is); (case c => k_is); (case k => k_is)))
    (case A2 => (refine' ⟨_, _, ?a, L2.fun_mk ?l ?c ?k⟩; (case a => k_is); (case l => k_is); (case c => k_is); (case k => k_is)))
    (case A3 => (refine' ⟨_, _, ?a, L2.fun_mk ?l ?c ?k⟩; (case a => k_is); (case l => k_is); (case c => k_is); (case k => k_is)))
    (case A4 => (refine' ⟨_, _, ?a, L2.fun_mk ?l ?c ?k⟩; (case a => k_is); (case l => k_is); (case c => k_is); (case k => k_is)))
    (case A5 => (refine' ⟨_, _, ?a, L2.fun_mk ?l ?c ?k⟩; (case a => k_is); (case l => k_is); (case c => k_is); (case k => k_is)))
    (case A6 => (refine' ⟨_, _, ?a, L2.fun_mk ?l ?c ?k⟩; (case a => k_is); (case l => k_is); (case c => k_is); (case k => k_is)))
    (case A7 => (refine' ⟨_, _, ?a, L2.fun_mk ?l ?c ?k⟩; (case a => k_is); (case l => k_is); (case c => k_is); (case k => k_is)))
    (case A8 => (refine' ⟨_, _, ?a, L2.fun_mk ?l ?c ?k⟩; (case a => k_is); (case l => k_is); (case c => k_is); (case k => k_is)))
    (case A9 => (refine' ⟨_, _, ?a, L2.fun_mk ?l ?c ?k⟩; (case a => k_is); (case l => k_is); (case c => k_is); (case k => k_is)))
    (case A10 => (refine' ⟨_, _, ?a, L2.fun_mk ?l ?c ?k⟩; (case a => k_is); (case l => k_is); (case c => k_is); (case k => k_is)))
    (case A11 => (refine' ⟨_, _, ?a, L2.fun_mk ?l ?c ?k⟩; (case a => k_is); (case l => k_is); (case c => k_is); (case k => k_is)))
    (case A12 => (refine' ⟨_, _, ?a, L2.fun_mk ?l ?c ?k⟩; (case a => k_is); (case l => k_is); (case c => k_is); (case k => k_is)))
    (case A13 => (refine' ⟨_, _, ?a, L2.fun_mk ?l ?c ?k⟩; (case a => k_is); (case l => k_is); (case c => k_is); (case k => k_is)))
    (case A14 => (refine' ⟨_, _, ?a, L2.fun_mk ?l ?c ?k⟩; (case a => k_is); (case l => k_is); (case c => k_is); (case k => k_is)))
    (case A15 => (refine' ⟨_, _, ?a, L2.fun_mk ?l ?c ?k⟩; (case a => k_is); (case l => k_is); (case c => k_is); (case k => k_is)))
    (case A16 => (refine' ⟨_, _, ?a, L2.fun_mk ?l ?c ?k⟩; (case a => k_is); (case l => k_is); (case c => k_is); (case k => k_is)))
    (case A17 => (refine' ⟨_, _, ?a, L2.fun_mk ?l ?c ?k⟩; (case a => k_is); (case l => k_is); (case c => k_is); (case k => k_is)))
    (case A18 => (refine' ⟨_, _, ?a, L2.fun_mk ?l ?c ?k⟩; (case a => k_is); (case l => k_is); (case c => k_is); (case k => k_is)))
    (case A19 => (refine' ⟨_, _, ?a, L2.fun_mk ?l ?c ?k⟩; (case a => k_is); (case l => k_is); (case c => k_is); (case k => k_is)))
    (case A20 => (refine' ⟨_, _, ?a, L2.fun_mk ?l ?c ?k⟩; (case a => k_is); (case l => k_is); (case c => k_is); (case k => k_is)))
    (case A21 => (refine' ⟨_, _, ?a, L2.fun_mk ?l ?c ?k⟩; (case a => k_is); (case l => k_is); (case c => k_is); (case k => k_is)))
    (case A22 => (refine' ⟨_, _, ?a, L2.fun_mk ?l ?c ?k⟩; (case a => k_is); (case l => k_is); (case c => k_is); (case k => k_is)))
    (case A23 => (refine' ⟨_, _, ?a, L2.fun_mk ?l ?c ?k⟩; (case a => k_is); (case l => k_is); (case c => k_is); (case k => k_is)))
    (case A24 => (refine' ⟨_, _, ?a, L2.fun_mk ?l ?c ?k⟩; (case a => k_is); (case l => k_is); (case c => k_is); (case k => k_is)))
    (case A25 => (refine' ⟨_, _, ?a, L2.fun_mk ?l ?c ?k⟩; (case a => k_is); (case l => k_is); (case c => k_is); (case k => k_is)))
    (case A26 => (refine' ⟨_, _, ?a, L2.fun_mk ?l ?c ?k⟩; (case a => k_is); (case l => k_is); (case c => k_is); (case k => k_is)))
    (case A27 => (refine' ⟨_, _, ?a, L2.fun_mk ?l ?c ?k⟩; (case a => k_is); (case l => k_is); (case c => k_is); (case k => k_is)))
    (case A28 => (refine' ⟨_, _, ?a, L2.fun_mk ?l ?c ?k⟩; (case a => k_is); (case l => k_is); (case c => k_is); (case k => k_is)))
    (case z_isinstance => k_is)
    (case z_len => k_is)
    (case z_all => k_is)
    (case z_set => k_is)
    (case z_int => k_is)
    (case z_bool => k_is)
    (case z_str => k_is)
    (case z_tuple => k_is)
    (case z_sorted => k_is)
    (case z_max => k_is)
    (case z_min => k_is)
    (case z_list => k_is)
    (case z_range => k_is)
    (case z_repr => k_is)
    (case z_dict => k_is)
    (case z_enumerate => k_is)
    (case g_FIRST_MOMENT => k_is)
    (case g_LAST_MOMENT => k_is)
    (case g_LAST_VALUE => k_is)
    (case g_LONGEST_NAME => k_is)
    (case g_MOST_PAIRS => k_is)
    (case g_LETTERS => k_is)
    (case g_MOST_DEEDS => k_is)
    (case nK_ => k_is)
    (case lK => k_is)
    (case nF_ => k_is)
    (case lF => k_is)
    (case litF => exact ⟨⟨_, _, rfl, rfl⟩, ⟨_, _, rfl, rfl⟩, ⟨_, _, rfl, rfl⟩, ⟨_, _, rfl, rfl⟩, ⟨_, _, rfl, rfl⟩, trivial⟩)
    (case lowF => decide)
    (case m1 => k_is)
    (case m2 => k_is)
    (case m3 => k_is)
    (case m4 => k_is)
    (case m5 => k_is)
    (case nt1 => k_is)
    (case lt1 => k_is)
    (case ck1 => k_is)
    (case kk1 => k_is)
    (case lc1 => k_is)
    (case hP1 => rfl)
    (case hcd1 => kernel_rfl)
    (case notK1 => kernel_rfl)
    (case tab1 => exact PySem.W.km_tabs_of Y _ (by simp))
    (case nt2 => k_is)
    (case lt2 => k_is)
    (case ck2 => k_is)
    (case kk2 => k_is)
    (case lc2 => k_is)
    (case hP2 => rfl)
    (case hcd2 => kernel_rfl)
    (case notK2 => kernel_rfl)
    (case tab2 => exact PySem.W.km_tabs_of Y _ (by simp))
    (case nt3 => k_is)
    (case lt3 => k_is)
    (case ck3 => k_is)
    (case kk3 => k_is)
    (case lc3 => k_is)
    (case hP3 => rfl)
    (case hcd3 => kernel_rfl)
    (case notK3 => kernel_rfl)
    (case tab3 => exact PySem.W.km_tabs_of Y _ (by simp))
    (case nt4 => k_is)
    (case lt4 => k_is)
    (case ck4 => k_is)
    (case kk4 => k_is)
    (case lc4 => k_is)
    (case hP4 => rfl)
    (case hcd4 => kernel_rfl)
    (case notK4 => kernel_rfl)
    (case tab4 => exact PySem.W.km_tabs_of Y _ (by simp))
    (case nt5 => k_is)
    (case lt5 => k_is)
    (case ck5 => k_is)
    (case kk5 => k_is)
    (case lc5 => k_is)
    (case hP5 => rfl)
    (case hcd5 => kernel_rfl)
    (case notK5 => kernel_rfl)
    (case tab5 => exact PySem.W.km_tabs_of Y _ (by simp))
    (case ne12 => decide)
    (case ne13 => decide)
    (case ne14 => decide)
    (case ne15 => decide)
    (case ne23 => decide)
    (case ne24 => decide)
    (case ne25 => decide)
    (case ne34 => decide)
    (case ne35 => decide)
    (case ne45 => decide)
    (case nCd => k_is)
    (case xLd => k_is)
    (case x5d => k_is)
    (case x6d => k_is)
    (case x7d => k_is)
    (case iId => k_is)
    (case tId => k_is)
    (case nTd => k_is)
    (case lId => k_is)
    (case cId => k_is)
    (case kId => k_is)
    (case x1d => k_is)
    (case x2d => k_is)
    (case x3d => k_is)
    (case x4d => k_is)
    (case nCp => k_is)
    (case xLp => k_is)
    (case x5p => k_is)
    (case x6p => k_is)
    (case x7p => k_is)
    (case iIp => k_is)
    (case tIp => k_is)
    (case nTp => k_is)
    (case lIp => k_is)
    (case cIp => k_is)
    (case kIp => k_is)
    (case x1p => k_is)
    (case x2p => k_is)
    (case x3p => k_is)
    (case x4p => k_is)
    (case nCm => k_is)
    (case xLm => k_is)
    (case x5m => k_is)
    (case x6m => k_is)
    (case x7m => k_is)
    (case iIm => k_is)
    (case tIm => k_is)
    (case nTm => k_is)
    (case lIm => k_is)
    (case cIm => k_is)
    (case kIm => k_is)
    (case x1m => k_is)
    (case x2m => k_is)
    (case x3m => k_is)
    (case x4m => k_is)
    (case nCt => k_is)
    (case xLt => k_is)
    (case x5t => k_is)
    (case x6t => k_is)
    (case x7t => k_is)
    (case iIt => k_is)
    (case tIt => k_is)
    (case nTt => k_is)
    (case lIt => k_is)
    (case cIt => k_is)
    (case kIt => k_is)
    (case x1t => k_is)
    (case x2t => k_is)
    (case x3t => k_is)
    (case x4t => k_is)
    (case spp => k_is)
    (case sdp => k_is)
    (case sdd => k_is)
    (case smp => k_is)
    (case smd => k_is)
    (case smm => k_is)
    (case stp => k_is)
    (case std => k_is)
    (case stm => k_is)
    (case stt => k_is)
    (case nQ_ => k_is)
    (case cQ1 => k_is)
    (case cQ2 => k_is)
    (case cQ3 => k_is)
    (case cQ4 => k_is)
    (case aQ1 => k_is)
    (case aQ2 => k_is)
    (case mkQ => k_is)
    (case inQ => k_is)
    (case fnQ => k_is)
    (case kpQ => k_is)
    (case kfQ => k_is)
    (case lQ => k_is)
    (case ccQ => k_is)
    (case tQ => k_is)
    (case t0Q => k_is)
    (case hQ1 => k_is)
    (case hQ2 => k_is)
    (case hQ3 => k_is)
    (case hQ4 => k_is)
    (case hQ6 => k_is)
    (case hQ7 => k_is)
    (case hQ8 => k_is)
    (case hQ9 => first | kernel_rfl | rfl | decide +kernel)
    (case iM1 => k_is)
    (case fnM1 => k_is)
    (case kpM1 => k_is)
    (case fiM1 => k_is)
    (case lM1 => k_is)
    (case cM1 => k_is)
    (case iM2 => k_is)
    (case fnM2 => k_is)
    (case kpM2 => k_is)
    (case fiM2 => k_is)
    (case lM2 => k_is)
    (case cM2 => k_is)
    (case iM3 => k_is)
    (case fnM3 => k_is)
    (case kpM3 => k_is)
    (case fiM3 => k_is)
    (case lM3 => k_is)
    (case cM3 => k_is)
    (case iM4 => k_is)
    (case fnM4 => k_is)
    (case kpM4 => k_is)
    (case fiM4 => k_is)
    (case lM4 => k_is)
    (case cM4 => k_is)
    (case iM6 => k_is)
    (case fnM6 => k_is)
    (case kpM6 => k_is)
    (case fiM6 => k_is)
    (case lM6 => k_is)
    (case cM6 => k_is)
    (case iM7 => k_is)
    (case fnM7 => k_is)
    (case kpM7 => k_is)
    (case fiM7 => k_is)
    (case lM7 => k_is)
    (case cM7 => k_is)
    (case iM8 => k_is)
    (case fnM8 => k_is)
    (case kpM8 => k_is)
    (case fiM8 => k_is)
    (case lM8 => k_is)
    (case cM8 => k_is)
    (case iM9 => k_is)
    (case fnM9 => k_is)
    (case kpM9 => k_is)
    (case fiM9 => k_is)
    (case lM9 => k_is)
    (case cM9 => k_is)

