import PyProof.Rows.All
import Wide.All
import OpenK.AllK
import Wide.FinOn
import HandS.ForMost
import PyProof.ReprLen
import PyProof.ReprRoads
import PyProof.WalksMore
import PyProof.CollectIter
import KE.SortUse
import HandS.IsInst
import HandS.TupAny
import HandS.TupMul
import HandS.TupSets
import HandS.Conv
import HandS.Style
import HandS.ExcInit
import HandS.ExcIs
import HandS.ExcField
import HandS.CallLocal
import HandS.CallSlots
import HandS.TryOnly
import HandS.ExcOwn
import HandS.WordsExc
import HandS.More
import HandS.NoneIn
import HandS.Defaults
import HandS.Lambda
import HandS.TryMany
import HandS.EndTab
import KE.KNestM
import HandS.Walk
import KE.GoesEnum
import KE.SortKeyHeap
import KE.LtSeq
import KE.SortData
import HandS.SortKw
import PyProof.Rows.TupSub
import HandS.Zip
import HandS.Sort
import HandS.TupLe
import KE.KTupSum
import HandS.DictComp
import HandS.ListItems
import KE.KDictList
import KE.KDictCopyH
import KE.KDictWalk
import HandS.Gcd
import KE.DataMinMax
import PySem.Challenge.RW_plainstore_k18_whole_best_counts_and_vot
set_option Elab.async false
set_option linter.all false
set_option maxRecDepth 100000
set_option maxHeartbeats 8000000
namespace Pl
open L2 PySem PySem.Spec PyProof.Rows
/-- what a tracked tuple's items read as: known to its object (which has no dict), or longer than four, or (k = false) any -/
inductive TupAt (H : Hp) : Bool → Addr → List V → Prop
  | frz {k : Bool} {a : Addr} {o : Obj} {xs : List V} (h : H a = some (.frz o (.tup xs))) (d : o.dict = none) : TupAt H k a xs
  | big {k : Bool} {a : Addr} {xs : List V} (h : H a = some (.tup xs)) (l : 4 < xs.length) : TupAt H k a xs
  | any {a : Addr} {xs : List V} (h : H a = some (.tup xs)) : TupAt H false a xs
mutual
/-- m: dicts (true) or lists (false) stand in it; z: an address that it keeps away from; k: its own tuple is known -/
inductive Dv (m : Bool) (z : Addr) (H : Hp) : Bool → V → PyData → Prop
  | non {k : Bool} : Dv m z H k .non .none
  | bl {k : Bool} (b : Bool) : Dv m z H k (.bl b) (.bool b)
  | int {k : Bool} (i : Int) : Dv m z H k (.int i) (.int i)
  | str {k : Bool} (x : Str) : Dv m z H k (.str x) (.str x)
  | lst {k : Bool} {a : Addr} {xs : List V} {ds : List PyData} (hm : m = false) (ne : a ≠ z) (h : H a = some (.lst xs)) (t : DvL m z H false xs ds) : Dv m z H k (.ref a) (.list ds)
  | tup {k : Bool} {a : Addr} {xs : List V} {ds : List PyData} (ne : a ≠ z) (h : TupAt H k a xs) (t : DvL m z H true xs ds) : Dv m z H k (.ref a) (.tuple ds)
  | dct {k : Bool} {a : Addr} (hm : m = true) (ne : a ≠ z) (h : H a = some (.dK [])) : Dv m z H k (.ref a) (.dict [])
inductive DvL (m : Bool) (z : Addr) (H : Hp) : Bool → List V → List PyData → Prop
  | nil {k : Bool} : DvL m z H k [] []
  | cons {k : Bool} {v : V} {vs : List V} {d : PyData} {ds : List PyData} (a : Dv m z H k v d) (t : DvL m z H k vs ds) : DvL m z H k (v :: vs) (d :: ds)
end
theorem TupAt.weak {H : Hp} {k : Bool} {a : Addr} {xs : List V} (h : TupAt H k a xs) : TupAt H false a xs := by
  cases h with
  | frz h d => exact .frz h d
  | big h l => exact .any h
  | any h => exact .any h
theorem TupAt.sq {K : PySem.W.Frag} {H : Hp} {k : Bool} {a : Addr} {xs : List V} (h : TupAt H k a xs) : SqT K H a xs := by
  cases h with
  | frz h d => exact .inl (.inr ⟨_, h⟩)
  | big h l => exact .inl (.inl h)
  | any h => exact .inl (.inl h)
/-- (any object) -/
def NoT (_ : HO) : Prop := True
theorem NoT.lst {xs : List V} : NoT (.lst xs) := trivial
theorem NoT.tup {xs : List V} : NoT (.tup xs) := trivial
theorem NoT.dK {kvs : List (Key × V)} : NoT (.dK kvs) := trivial
theorem NoT.frz {o : Obj} {u : HO} : NoT (.frz o u) := trivial
/-- all but z stands -/
def But (z : Addr) (H G : Hp) : Prop := ∀ b o, b ≠ z → NoT o → H b = some o → G b = some o
/-- all stands -/
def Sam (H G : Hp) : Prop := ∀ b o, NoT o → H b = some o → G b = some o
theorem Sam.refl (H : Hp) : Sam H H := fun _ _ _ e => e
theorem Sam.of {H G : Hp} (s : Same H G) : Sam H G := fun b o _ e => s b o e
theorem Sam.trans {H G F : Hp} (a : Sam H G) (b : Sam G F) : Sam H F := fun c o n e => b c o n (a c o n e)
theorem Sam.but {H G : Hp} {z : Addr} (s : Sam H G) : But z H G := fun b o _ n e => s b o n e
theorem But.of {H G : Hp} {z : Addr} (s : Same H G) : But z H G := fun b o _ _ e => s b o e
theorem But.refl (z : Addr) (H : Hp) : But z H H := fun _ _ _ _ e => e
theorem But.trans {z : Addr} {H G F : Hp} (a : But z H G) (b : But z G F) : But z H F := fun c o n t e => b c o n t (a c o n t e)
theorem But.upd {z : Addr} {H : Hp} {o : HO} : But z H (L2.upd H z o) := fun b u n _ e => (upd_ne n).trans e
theorem But.new {z p : Addr} {H : Hp} {o : HO} (f : H p = none) : But z H (L2.upd H p o) := fun b u _ _ e => (upd_ne (ne_of_none e f)).trans e
theorem same_new {p : Addr} {H : Hp} {o : HO} (f : H p = none) : Same H (L2.upd H p o) := fun b u e => (upd_ne (ne_of_none e f)).trans e
theorem TupAt.to {H G : Hp} {z : Addr} {k : Bool} {a : Addr} {xs : List V} (e : But z H G) (ne : a ≠ z) (h : TupAt H k a xs) : TupAt G k a xs := by
  cases h with
  | frz h d => exact .frz (e _ _ ne NoT.frz h) d
  | big h l => exact .big (e _ _ ne NoT.tup h) l
  | any h => exact .any (e _ _ ne NoT.tup h)
section
variable {m : Bool} {z : Addr} {H G : Hp}
mutual
theorem Dv.to (e : But z H G) : ∀ (k : Bool) (d : PyData) (v : V), Dv m z H k v d → Dv m z G k v d
  | _, .none, _, h => by cases h; exact .non
  | _, .bool _, _, h => by cases h; exact .bl _
  | _, .int _, _, h => by cases h; exact .int _
  | _, .str _, _, h => by cases h; exact .str _
  | _, .list ds, _, h => by
    cases h with
    | lst hm ne h t => exact .lst hm ne (e _ _ ne NoT.lst h) (DvL.to e _ ds _ t)
  | _, .tuple ds, _, h => by
    cases h with
    | tup ne h t => exact .tup ne (h.to e ne) (DvL.to e _ ds _ t)
  | _, .dict _, _, h => by
    cases h with
    | dct hm ne h => exact .dct hm ne (e _ _ ne NoT.dK h)
theorem DvL.to (e : But z H G) : ∀ (k : Bool) (ds : List PyData) (vs : List V), DvL m z H k vs ds → DvL m z G k vs ds
  | _, [], _, h => by cases h; exact .nil
  | _, d :: ds, _, h => by
    cases h with
    | cons a t => exact .cons (Dv.to e _ d _ a) (DvL.to e _ ds _ t)
end
theorem Dv.weak {k : Bool} {v : V} {d : PyData} (h : Dv m z H k v d) : Dv m z H false v d := by
  cases h with
  | non => exact .non
  | bl b => exact .bl b
  | int i => exact .int i
  | str x => exact .str x
  | lst hm ne h t => exact .lst hm ne h t
  | tup ne h t => exact .tup ne h.weak t
  | dct hm ne h => exact .dct hm ne h
theorem DvL.weak {k : Bool} : ∀ {vs : List V} {ds : List PyData}, DvL m z H k vs ds → DvL m z H false vs ds
  | _, _, .nil => .nil
  | _, _, .cons a t => .cons a.weak t.weak
theorem DvL.len {k : Bool} : ∀ {vs : List V} {ds : List PyData}, DvL m z H k vs ds → vs.length = ds.length
  | _, _, .nil => rfl
  | _, _, .cons _ t => congrArg Nat.succ t.len
theorem DvL.at {k : Bool} : ∀ {vs : List V} {ds : List PyData} {i : Nat} {d : PyData}, DvL m z H k vs ds → ds[i]? = some d → ∃ v, vs[i]? = some v ∧ Dv m z H k v d
  | _, _, _, _, .nil, e => absurd e (by simp)
  | _, _, 0, _, .cons a _, e => by simp at e; subst e; exact ⟨_, rfl, a⟩
  | _, _, i + 1, _, .cons _ t, e => by
    obtain ⟨v, h1, h2⟩ := DvL.at (i := i) t (by simpa using e)
    exact ⟨v, by simpa using h1, h2⟩
theorem DvL.at' {k : Bool} : ∀ {vs : List V} {ds : List PyData} {i : Nat} {v : V}, DvL m z H k vs ds → vs[i]? = some v → ∃ d, ds[i]? = some d ∧ Dv m z H k v d
  | _, _, _, _, .nil, e => absurd e (by simp)
  | _, _, 0, _, .cons a _, e => by simp at e; subst e; exact ⟨_, rfl, a⟩
  | _, _, i + 1, _, .cons _ t, e => by
    obtain ⟨v, h1, h2⟩ := DvL.at' (i := i) t (by simpa using e)
    exact ⟨v, by simpa using h1, h2⟩
theorem DvL.app {k : Bool} : ∀ {vs ws : List V} {ds es : List PyData}, DvL m z H k vs ds → DvL m z H k ws es → DvL m z H k (vs ++ ws) (ds ++ es)
  | _, _, _, _, .nil, h => h
  | _, _, _, _, .cons a t, h => .cons a (t.app h)
theorem DvL.take {k : Bool} : ∀ {vs : List V} {ds : List PyData} (n : Nat), DvL m z H k vs ds → DvL m z H k (vs.take n) (ds.take n)
  | _, _, 0, _ => by rw [List.take_zero, List.take_zero]; exact .nil
  | _, _, _ + 1, .nil => .nil
  | _, _, n + 1, .cons a t => .cons a (t.take n)
theorem DvL.drop {k : Bool} : ∀ {vs : List V} {ds : List PyData} (n : Nat), DvL m z H k vs ds → DvL m z H k (vs.drop n) (ds.drop n)
  | _, _, 0, h => h
  | _, _, _ + 1, .nil => .nil
  | _, _, n + 1, .cons _ t => t.drop n
end
section
variable {X : Cx} {pins : List (Addr × Obj)} {σ : L2.St} {H : Hp} {s : Shared} {m : Bool} {z : Addr}
theorem vals_list {a : Addr} {xs : List V} (I : Inv X pins σ H s) (h : H a = some (.lst xs)) : ∃ o vs n, s.heap.get? a = some o ∧ o.cls = .type "list" ∧ o.data = .seq vs n ∧ Vals xs vs.toList := by
  obtain ⟨_, its, n, r, e⟩ := I.hok a _ h
  exact ⟨_, its.toArray, n, e, rfl, rfl, by simpa using r⟩
theorem TupAt.obj {k : Bool} {a : Addr} {xs : List V} (I : Inv X pins σ H s) (h : TupAt H k a xs) : xs.length ≤ sizeLine ∧ ∃ its : List Value, Vals xs its ∧ IsTup s.heap a its.toArray := by
  cases h with
  | frz h d => exact (I.hok _ _ h).2
  | big h l => exact I.hok _ _ h
  | any h => exact I.hok _ _ h
mutual
theorem Dv.rd (I : Inv X pins σ H s) : ∀ (k : Bool) (d : PyData) (v : V) (u : Value), Dv m z H k v d → RelV v u → ∃ as, Reads s.heap u d as ∧ (m = true → sysModules ∉ as)
  | _, .none, _, _, h, r => by cases h; cases r; exact ⟨_, .none, fun _ => List.not_mem_nil⟩
  | _, .bool b, _, _, h, r => by cases h; cases r; exact ⟨_, .bool b, fun _ => List.not_mem_nil⟩
  | _, .int i, _, _, h, r => by
    cases h
    obtain ⟨t, rfl⟩ := r
    exact ⟨_, .int i t, fun _ => List.not_mem_nil⟩
  | _, .str x, _, _, h, r => by
    cases h
    obtain ⟨t, rfl⟩ := r
    exact ⟨_, .str x t, fun _ => List.not_mem_nil⟩
  | _, .list ds, _, _, h, r => by
    cases h with
    | lst hm ne h t =>
      cases r
      obtain ⟨o, vs, n, e1, e2, e3, rv⟩ := vals_list I h
      obtain ⟨as, q, _⟩ := DvL.rd I _ ds _ _ t rv
      exact ⟨_, .list e1 e2 e3 q, fun e => absurd (hm.symm.trans e) (by decide)⟩
  | _, .tuple ds, _, _, h, r => by
    cases h with
    | tup ne h t =>
      cases r
      obtain ⟨_, its, rv, o, e1, e2, n, e3⟩ := h.obj I
      obtain ⟨as, q, kk⟩ := DvL.rd I _ ds _ its t rv
      exact ⟨_, .tuple e1 e2 e3 (by simpa using q), kk⟩
  | _, .dict kvs, _, _, h, r => by
    cases h with
    | @dct _ a hm ne h =>
      cases r
      obtain ⟨_, lo, vs, rel, o, es, n, e1, e2, e3, _, e4, _⟩ := I.hok _ _ h
      cases rel
      obtain ⟨l⟩ := es
      have e5 : l = [] := by
        cases l with
        | nil => rfl
        | cons x l => cases e4
      subst e5
      refine ⟨[a] ++ [], .dict (as := []) (bs := []) e1 e2.1 e3 .nil .nil, fun _ hm => ?_⟩
      rw [List.append_nil, List.mem_singleton] at hm
      subst hm
      simp at lo
theorem DvL.rd (I : Inv X pins σ H s) : ∀ (k : Bool) (ds : List PyData) (vs : List V) (us : List Value), DvL m z H k vs ds → Vals vs us → ∃ as, ReadsAll s.heap us ds as ∧ (m = true → sysModules ∉ as)
  | _, [], _, _, h, r => by cases h; cases r; exact ⟨_, .nil, fun _ => List.not_mem_nil⟩
  | _, d :: ds, _, _, h, r => by
    cases h with
    | cons a t =>
      cases r with
      | cons r1 r2 =>
        obtain ⟨as, q1, k1⟩ := Dv.rd I _ d _ _ a r1
        obtain ⟨bs, q2, k2⟩ := DvL.rd I _ ds _ _ t r2
        exact ⟨_, .cons q1 q2, fun e hm => (List.mem_append.mp hm).elim (k1 e) (k2 e)⟩
end
mutual
theorem Dv.nod (e : m = false) : ∀ (k : Bool) (d : PyData) (v : V), Dv m z H k v d → d.hasDict = false
  | _, .none, _, _ => by simp only [PyData.hasDict]
  | _, .bool _, _, _ => by simp only [PyData.hasDict]
  | _, .int _, _, _ => by simp only [PyData.hasDict]
  | _, .str _, _, _ => by simp only [PyData.hasDict]
  | _, .list ds, _, h => by
    cases h with
    | lst hm ne h t => simp only [PyData.hasDict]; exact DvL.nod e _ ds _ t
  | _, .tuple ds, _, h => by
    cases h with
    | tup ne h t => simp only [PyData.hasDict]; exact DvL.nod e _ ds _ t
  | _, .dict _, _, h => by
    cases h with
    | dct hm ne h => exact absurd (hm.symm.trans e) (by decide)
theorem DvL.nod (e : m = false) : ∀ (k : Bool) (ds : List PyData) (vs : List V), DvL m z H k vs ds → PyData.hasDictAll ds = false
  | _, [], _, _ => by simp only [PyData.hasDictAll]
  | _, d :: ds, _, h => by
    cases h with
    | cons a t => simp only [PyData.hasDictAll, Dv.nod e _ d _ a, DvL.nod e _ ds _ t, Bool.or_self]
end
/-- what can be written out -/
structure Shw (d : PyData) : Prop where
  sh : d.showable = true
  dp : d.depth ≤ 10
  sz : d.shown.length ≤ sizeLine
def rRepr : List V → Hp → VK → Prop := fun xs H Q => ∃ (m : Bool) (z : Addr) (v : V) (d : PyData), xs = [v] ∧ Dv m z H false v d ∧ Shw d ∧ Q (.str d.shown) H
theorem call_repr (hg : X.A.guards = some []) (hu : X.A.units + 64 < cLine) : CallR X (.builtin "repr") rRepr := by
  intro pins s σ H xs us Q I r h; skip
  obtain ⟨m, z, v, d, rfl, hd, S, q⟩ := h
  obtain ⟨u, rfl, ru⟩ := vals1 r; skip
  obtain ⟨as, rd, lo⟩ := Dv.rd I _ d v u hd ru
  have fin : ∀ (a : Addr), u = .ref a → wpAny (model X.prog X.w) X.A (call (.builtin "repr") [u]) (EP X pins σ Q) X.xe s := fun a e => by
    subst e
    refine repr_of_reads' rd S.sh (fun hd2 => ?_) hg (by have := S.dp; omega) (fun _ _ e => e) (fun h' w tk k => ?_) S.sz
    · cases m with
      | true => exact lo rfl
      | false => exact absurd (hd2.symm.trans (Dv.nod rfl _ d v hd)) (by decide)
    · exact ⟨.str d.shown, H, I.kept k, ⟨w, rfl⟩, q⟩
  cases rd with
  | none => exact P.repr_of_none ⟨.str _, H, I.tok _, ⟨_, rfl⟩, by simpa only [PyData.shown] using q⟩
  | bool b => exact P.repr_of_bool ⟨.str _, H, I.tok _, ⟨_, rfl⟩, by cases b <;> simpa only [PyData.shown] using q⟩
  | int i t =>
    have e : decide (i.natAbs.log2 < 1920) = true := by simpa only [PyData.showable] using S.sh
    exact P.repr_of_int (of_decide_eq_true e) ⟨.str _, H, I.tok _, ⟨_, rfl⟩, by simpa only [PyData.shown] using q⟩
  | str x t => exact P.repr_of_str ⟨.str _, H, I.tok _, ⟨_, rfl⟩, by simpa only [PyData.shown] using q⟩ (by simpa only [PyData.shown] using S.sz)
  | list => exact fin _ rfl
  | tuple => exact fin _ rfl
  | dict => exact fin _ rfl
end
end Pl

namespace Pl
open L2 PySem PySem.Spec PyProof.Rows
/-! ### a, b, *c = a tuple -/
theorem shiftW {prog : Program} {w : World} {A : Around} {I : Addr} {fp wr : List Addr} {G : Array GenState → Array GenState → Prop} {n : Nat} {P : Nat → Value → Prop} {St : Nat → Shared → Prop}
    (W : WalksS prog w A I fp wr G n P St) (k : Nat) (hk : k ≤ n) : WalksS prog w A I fp wr G (n - k) (fun i => P (i + k)) (fun i => St (i + k)) where
  sub := W.sub
  grefl := W.grefl
  gtrans := W.gtrans
  frame := fun i => W.frame (i + k)
  item := fun i s Q E hi st hQ => W.item (i + k) s Q E (by omega) st fun v s' hp hs hm => by
    have e : i + 1 + k = i + k + 1 := by omega
    have hs' : St (i + 1 + k) s' := by
      rw [e]
      exact hs
    exact hQ v s' hp hs' hm
  done := fun s Q E st hQ => by
    have e : n - k + k = n := by omega
    have st' : St (n - k + k) s := st
    rw [e] at st'
    exact W.done s Q E st' hQ
  self := fun i => W.self (i + k)
theorem items_eq {items : Array Value} {k : Nat} {acc : Array Value} (h : ItemsOf (fun i v => items[i + k]? = some v) acc (items.size - k)) : acc.toList = items.toList.drop k := by
  obtain ⟨h1, h2⟩ := h
  apply List.ext_getElem?
  intro i
  rw [List.getElem?_drop]
  cases e : acc[i]? with
  | some v =>
    have q := h2 i v e
    rw [Array.getElem?_toList, e, Array.getElem?_toList, Nat.add_comm k i]
    exact q.symm
  | none =>
    have q : acc.size ≤ i := by simpa using e
    rw [Array.getElem?_toList, e, Array.getElem?_toList]
    symm
    rw [Array.getElem?_eq_none_iff]
    omega
section
variable {prog : Program} {w : World} {s : Shared} {E : Value → Shared → Prop} {A : Around}
theorem unpack_star {t : Addr} {items : Array Value} {targets : List (Bool × (Value → Sem Unit))} {k : Nat} {Q : Unit → Shared → Prop} (hh : A.handled = none) (ht : s.heap.IsTuple t items)
    (hn : targets.length = k + 1) (hstar : targets.findIdx? (·.1) = some k) (hk : k ≤ items.size) (hz : items.size ≤ sizeLine)
    (h : ∀ (h2 : Heap) (tk : Nat), (∀ b o, s.heap.get? b = some o → h2.get? b = some o) →
      wpAny (model prog w) A (assignInOrder (targets.map (·.2)) (items.toList.take k ++ [.ref h2.objs.size])) Q E { s with heap := h2.push { cls := .type "list", data := .seq (items.toList.drop k).toArray }, toks := tk }) :
    (wpAny (model prog w) A (unpack (.ref t) targets) Q E s) := by
  have hlt : t ≠ s.heap.objs.size := by
    obtain ⟨o, ho, _⟩ := ht
    exact Nat.ne_of_lt (Heap.lt_size ho); skip
  unfold unpack
  rw [hn, hstar]
  refine wpAny_bind (wpAny_holding ?_); skip
  unfold unpackItems
  refine wpAny_bind ?_
  unfold notIterableAtAll
  refine wpAny_bind (wpAny_specialOf ht.typeIs slot_tuple_iter.lookup (wpAny_pure ?_))
  simp only [Bool.false_eq_true, if_false]; skip
  refine wpAny_bind (wpAny_holding (wpAny_pyIter_tuple ht ?_)); skip
  have W0 := (Walks.tuple (prog := prog) (w := w) (A := A.in1) hh s.heap.objs.size t hlt items).toS
  have i0 : (s.heap.push { cls := .type "tuple_iterator", data := .fields #[.ref t, .int 0 0] }).IsTupleIter s.heap.objs.size t 0 := ⟨_, Heap.get?_push_size _ rfl, rfl, rfl⟩
  refine wpAny_bind (wpAny_holding (wpAny_draw_tuple hlt k 0 _ _ i0 (ht.push _) (by omega) fun h1 it1 sb1 => ?_))
  have elen : (List.take k (List.drop 0 items.toList)).length = k := by
    rw [List.drop_zero, List.length_take, Array.length_toList]
    omega
  rw [if_neg (by rw [elen]; omega)]
  have ht1 : h1.IsTuple t items := (ht.push _).extBut sb1.extBut hlt
  have sz1 : s.heap.objs.size < h1.objs.size := by
    obtain ⟨o, ho, _⟩ := it1
    exact Heap.lt_size ho
  have hold : ∀ b o, s.heap.get? b = some o → h1.get? b = some o := fun b o e => by
    rw [sb1.2 b (Nat.ne_of_lt (Heap.lt_size e))]
    exact Heap.get?_push_of_some _ e; skip
  refine wpAny_bind (wpAny_holding (wpAny_collect_iter (T := "tuple_iterator") (.inr (.inr (.inr rfl))) (shiftW W0 k hk) (fun i s' st => st.1.typeIs) ⟨by simpa using it1, ht1⟩ (fun b hb => ?_) (List.mem_cons_self) (fun s2 acc mv it => ?_) (by omega)))
  · rcases List.mem_cons.mp hb with rfl | hb; skip
    · exact sz1
    · rcases List.mem_cons.mp hb with rfl | hb; skip
      · obtain ⟨o, ho, _⟩ := ht1
        exact Heap.lt_size ho
      · cases hb
  · have ea := items_eq it
    have keep2 : ∀ b o, s.heap.get? b = some o → s2.heap.get? b = some o := fun b o e => mv.heap b o (fun hb => absurd (Heap.lt_size e) ((List.mem_singleton.mp hb) ▸ Nat.lt_irrefl _)) (hold b o e)
    have e1 : k + 1 - 1 - k = 0 := by omega
    rw [e1, if_neg (Nat.not_lt_zero _), Nat.sub_zero]
    have e2 : List.take acc.toList.length acc.toList = acc.toList := List.take_length
    have e3 : List.drop acc.toList.length acc.toList = [] := List.drop_length
    rw [e2, e3]
    obtain ⟨hp2, g2, d2, t2, o2⟩ := s2
    obtain ⟨hp, g, d, t0, os⟩ := s
    obtain rfl : g2 = g := mv.gens
    obtain rfl : d2 = d := mv.drawn
    obtain rfl : o2 = os := mv.os
    refine wpAny_bind (wpAny_newList ?_ ?_)
    · refine wpAny_pure ?_
      rw [List.append_nil, List.drop_zero, ea]
      exact h hp2 t2 keep2
    · rw [ea, List.length_drop, Array.length_toList]
      omega
end
end Pl
namespace Pl
open L2 PySem PySem.Spec PyProof.Rows
section
variable {X : Cx}
theorem pgs_star {e : Expr} {es : List Expr} {t : TG} {u : TGs} {p : Pos} (h1 : PG X e t) (h2 : PGs X es u)
    (hs : (assignEach (.Starred e p :: es) X.env).map (·.2) = assign e X.env :: (assignEach es X.env).map (·.2) := by rfl) : PGs X (.Starred e p :: es) (gCons t u) :=
  ⟨fun pins s σ H vs us Q I r h => by
    obtain ⟨v, vr, rfl, h⟩ := h
    cases r with
    | cons r rr =>
      rw [hs]
      exact assignInOrder_cons (thn (h1.run pins s σ H _ _ _ I r h) fun _ s1 ⟨σ1, H1, I1, q1⟩ => h2.run pins s1 σ1 H1 _ _ Q I1 rr q1)⟩
def gStar (K : PySem.W.Frag) (k : Nat) (t : TGs) : TG := fun v σ H Q => ∃ a xs, v = .ref a ∧ SqT K H a xs ∧ k ≤ xs.length ∧ ∀ p, H p = none → t (xs.take k ++ [.ref p]) σ (upd H p (.lst (xs.drop k))) Q
theorem pg_star {es : List Expr} {j k : Nat} {t : TGs} {pos : Pos} (hc : X.calm = true) (h : PGs X es t) (hn : (assignEach es X.env).length = k + 1 := by rfl)
    (hst : (assignEach es X.env).findIdx? (·.1) = some k := by rfl) : PG X (.Tuple es j pos) (gStar X.K k t) := by
  refine ⟨fun pins s σ H v u Q I r hw => ?_⟩; skip
  obtain ⟨a, xs, rfl, hq, hl, hw⟩ := hw
  cases r
  obtain ⟨its, rv, ht, hz⟩ := I.tuple hq; skip
  rw [assign_Tuple]
  refine wpAny_bind (wpAny_standAt (unpack_star (I.ok.hd hc) ht hn hst (by rw [List.size_toArray, ← rv.length]; exact hl) (by rw [List.size_toArray, ← rv.length]; exact hz) fun h2 tk kp => ?_))
  have I2 : Inv X pins σ H { s with heap := h2, toks := tk } := I.kept kp
  have hf : H h2.objs.size = none := I2.hok.fresh (Nat.le_refl _)
  have rd : Vals (xs.drop k) (its.drop k) := rv.drop k
  have I3 : Inv X pins σ (upd H h2.objs.size (.lst (xs.drop k))) { s with heap := h2.push { cls := .type "list", data := .seq (its.drop k).toArray }, toks := tk } :=
    I2.laid (t' := tk) (fun b u e => Heap.get?_push_of_some _ e) (Nat.le_refl _) ⟨by rw [List.length_drop]; omega, _, 0, rd, Heap.get?_push_size _ rfl⟩
  exact h.run pins _ σ _ _ _ Q I3 ((rv.take k).append (.cons (show RelV (.ref h2.objs.size) (Value.ref h2.objs.size) from rfl) .nil)) (hw _ hf)
end
end Pl

namespace Pl
open L2 PySem PySem.Spec PyProof.Rows
section
variable {prog : Program} {w : World} {s : Shared} {E : Value → Shared → Prop} {A : Around}
/-- a tuple's items, gathered -/
theorem gather_tup {a : Addr} {xs : List Value} {Q : List Value → Shared → Prop} (ht : s.heap.IsTuple a xs.toArray) (hz : xs.length ≤ sizeLine)
    (q : Q xs { s with heap := (s.heap.push (seqObj "list" #[] 0)).update s.heap.objs.size (Obj.mapSeq (· ++ xs.toArray)) }) : wpAny (model prog w) A (collect (.ref a)) Q E s := by
  obtain ⟨ob, e1, e2, k, e3⟩ := id ht
  have e1' : (s.heap.push (seqObj "list" #[] 0)).get? a = some ob := Heap.get?_push_of_some _ e1
  have top : (s.heap.push (seqObj "list" #[] 0)).get? s.heap.objs.size = some (seqObj "list" #[] 0) := Heap.get?_push_size _ rfl
  unfold collect
  refine wpAny_bind (wpAny_runValue (codeAny_builtin entry_proto_collect' ?_)); skip
  show wpAny _ _ (newList [] >>= fun g => again (.builtin "list.__iadd__" ⟨[g, .ref a], []⟩)) _ _ s
  refine wpAny_bind (wpAny_newList (wpAny_pure ⟨Code.quiet_builtin _ (by decide +kernel), codeAny_builtin entry_list_iadd' ?_⟩)); skip
  have go : ∀ (P : PySem.Fin → Shared → Prop) (F : Value → Shared → Prop) (B : Around), P (.done (.ret (.ref s.heap.objs.size))) { s with heap := (s.heap.push (seqObj "list" #[] 0)).update s.heap.objs.size (Obj.mapSeq (· ++ xs.toArray)) } →
      wpAny (model prog w) B (Builtin.List.listExtendWith (.ref s.heap.objs.size) (.ref a) (.ref s.heap.objs.size)) P F { s with heap := s.heap.push (seqObj "list" #[] 0) } := by
    intro P F B hP
    unfold Builtin.List.listExtendWith; skip
    refine wpAny_bind (wpAny_typeOf (T := "tuple") ⟨ob, e1', e2⟩ ?_)
    have two : (Value.type "tuple" == Value.type "tuple") = true := by rfl
    rw [if_pos (by rw [two]; simp)]
    refine wpAny_bind (listItems_at e1' e3 ?_)
    refine wpAny_bind (listItems_at (xs := #[]) (n := 0) top rfl ?_)
    rw [if_neg (by simp)]
    refine wpAny_bind (listUpdate_at (xs := #[]) (n := 0) top rfl ?_ (Nat.zero_le _) (by
      show (#[] ++ xs.toArray).size ≤ sizeLine + 1
      rw [Array.size_append, List.size_toArray]
      show 0 + xs.length ≤ sizeLine + 1
      omega))
    exact wpAny_pure hP
  refine go _ _ _ ?_
  show wpAny (model prog w) A (load s.heap.objs.size >>= _) Q E _
  refine wpAny_bind (wpAny_load (get?_update_seq top _) ?_)
  have e : ((#[] : Array Value) ++ xs.toArray).toList = xs := by simp
  show wpAny _ _ (pure ((#[] : Array Value) ++ xs.toArray).toList) Q E _
  rw [e]
  exact wpAny_pure q
end
end Pl
namespace Pl
open PySem PySem.W PySem.Calls PyProof.Rows L2
section
variable {prog : Program} {w : World} {s : Shared} {E : Value → Shared → Prop} {A : Around}
/-- sorted(a tuple, ..) is the sort of a new list of its items -/
theorem tup_sorted {a : Addr} {xs : List Value} {kw : List (Str × Value)} {Q : Value → Shared → Prop} (ht : s.heap.IsTuple a xs.toArray) (hz : xs.length ≤ sizeLine) (ok1 : argsOk "sorted" ⟨[.ref a], kw⟩) (ok2 : ∀ y, argsOk "list.sort" ⟨[.ref y], kw⟩)
    (run : ∀ F : Value → Shared → Prop, wpAny (model prog w) A.in1.in1 (Builtin.«list.sort» ⟨[.ref (s.heap.objs.size + 1)], kw⟩) (fun f s' => f = .done (.ret .none) ∧ Q (.ref (s.heap.objs.size + 1)) s') F { s with heap := copyHeap s.heap xs }) :
    wpAny (model prog w) A (call (.builtin "sorted") [.ref a] kw) Q E s := by
  refine call_function_entry_kw kind_sorted plain_sorted entry_sorted ok1 ?_
  unfold Builtin.«sorted»
  refine wpAny_bind (m := checkCount "sorted" 1 1 _) (wpAny_pure ?_); skip
  refine wpAny_bind (gather_tup ht hz (wpAny_bind (wpAny_newList ?_ hz)))
  have n1 : ((s.heap.push (seqObj "list" #[] 0)).update s.heap.objs.size (Obj.mapSeq (· ++ xs.toArray))).objs.size = s.heap.objs.size + 1 := by
    rw [Heap.size_update]
    exact size_push' _ _
  show wpAny _ _ _ _ _ { s with heap := copyHeap s.heap xs }
  rw [n1]
  refine wpAny_bind (wpAny_holding (wpAny_call_entry_kw slot_list_sort ⟨_, copyHeap_at s.heap xs, rfl⟩ entry_list_sort ?go (ok2 _)))
  case go =>
    show wpAny (model prog w) A.in1.in1 (Builtin.«list.sort» ⟨[.ref (s.heap.objs.size + 1)], kw⟩) _ _ _; skip
    exact wpAny_mono (run _) (fun f s' ⟨e, q⟩ => ⟨.none, by rw [e], wpAny_pure ⟨_, rfl, q⟩⟩) fun _ _ e => e
section
variable {β : Type} {R : Value → β → Prop} {bs : List β} {vs : List Value}
theorem tup_sorted_data {enc : β → PyData} {a : Addr} {Q : Value → Shared → Prop} (ht : s.heap.IsTuple a vs.toArray) (e : EachIs R vs bs) (er : EachIs (fun v b => ∃ as, Reads s.heap v (enc b) as) vs bs) (hal : AllAlike (bs.map enc)) (hk : Sortable (bs.map enc)) (hL : bs.length ≤ sizeLine)
    (hu : ∀ b, b ∈ bs → A.units + 2 + (enc b).depth < cLine) (q : ∀ out, out.length = bs.length → EachIs R out (bs.mergeSort (dataLe false enc)) → Q (.ref (s.heap.objs.size + 1)) { s with heap := sortedAll s.heap vs (List.toArray out) }) :
    wpAny (model prog w) A (call (.builtin "sorted") [.ref a]) Q E s := by
  have up : EachIs (fun v b => ∃ as, Reads (sortingHeap (copyHeap s.heap vs) (s.heap.objs.size + 1) vs) v (enc b) as) vs bs := er.mono fun _ _ ⟨as, r⟩ => ⟨as, PyProof.Rows.Reads.keeps (fun _ _ => sorting_copy_old) r⟩
  have S := SortsAt.data (prog := prog) (w := w) (A := A.in1.in1) (s := { s with heap := sortingHeap (copyHeap s.heap vs) (s.heap.objs.size + 1) vs }) (each_map (R := fun v d => ∃ as, Reads (sortingHeap (copyHeap s.heap vs) (s.heap.objs.size + 1) vs) v d as) enc up) hal hk (bound_map hu)
  refine tup_sorted ht (by rw [e.length]; exact hL) (args_sorted1 _) (fun _ => args_list_sort _) fun F => ?_
  exact list_sort_vals (s := { s with heap := copyHeap s.heap vs }) (copyHeap_at s.heap vs) S (by rw [e.length]; exact hL) ⟨rfl, q _ (by rw [sortVals_length false rfl]; exact e.length) (sortVals_data false e up hal)⟩
theorem tup_sorted_key {a : Addr} {f : Addr} {Q : Value → Shared → Prop} (k : β → PyData) (ht : s.heap.IsTuple a vs.toArray) (e : EachIs R vs bs) (hal : AllAlike (bs.map k)) (hk : Sortable (bs.map k)) (hL : bs.length ≤ sizeLine)
    (hu : ∀ x, x ∈ bs → A.units + 2 + (k x).depth < cLine)
    (turn : ∀ (v : Value) (x : β), R v x → x ∈ bs → ∀ (h : Heap) (tk : Nat), (∀ c o, s.heap.get? c = some o → h.get? c = some o) →
      wpAny (model prog w) A.in1.in1 (call (.ref f) [v]) (KeyPure (k x) { s with heap := h, toks := tk }) (fun _ _ => False) { s with heap := h, toks := tk })
    (q : ∀ out c h' tk, (∀ b o, s.heap.get? b = some o → h'.get? b = some o) → h'.get? (s.heap.objs.size + 1) = some (seqObj "list" (List.toArray out) c) → out.length = bs.length → EachIs R out (bs.mergeSort (dataLe false k)) →
      (Q (.ref (s.heap.objs.size + 1)) { s with heap := h', toks := tk })) :
    wpAny (model prog w) A (call (.builtin "sorted") [.ref a] [(Str.ofString "key", .ref f)]) Q E s := by
  have up : ∀ {g : Heap}, KeepsBut (s.heap.objs.size + 1) (copyHeap s.heap vs) g → ∀ b o, s.heap.get? b = some o → g.get? b = some o := fun {g} kp b o x => kp b o (Nat.ne_of_lt (Nat.lt_succ_of_lt (Heap.lt_size x))) (copyHeap_old x)
  have zl : (bs.map k).length = vs.length := by
    rw [List.length_map]
    exact e.length.symm
  refine tup_sorted ht (by rw [e.length]; exact hL) (ksk_s1 _ _) (fun _ => ksk_l1 _ _) fun F => ?_
  rw [ksk_t1]
  refine keyH_tree (kz := bs.map k) (s := { s with heap := copyHeap s.heap vs }) (copyHeap_at s.heap vs) zl (by rw [e.length]; exact hL) hal hk (bound_map (A := A.in1.in1) hu)
    (keyH_turns (s := { s with heap := copyHeap s.heap vs }) e fun v x r m h tk kp => turn v x r m h tk (up kp)) fun h' tk out c kp hD ko => ⟨rfl, ?_⟩
  exact q out c h' tk (up kp) hD ((ko.length zl).trans e.length) (keyedOut_each k ko e)
end
end
end Pl

namespace Pl
open L2 PySem PySem.Spec PyProof.Rows
/-- as FnOk, at places where nothing is being written out -/
structure FnG (P : Program) (w : World) (K : PySem.W.Frag) (mg : Str → Option Value) (base : Heap) (k : Nat) (f : Addr) (fd : FuncData) (ps : List Str) (sp : Sp) : Prop where
  len : ∀ us H Q E, sp us H Q E → us.length = ps.length
  run : ∀ (A : Around) (outer : List Env) (s : Shared) (H : Hp) (args : Args) (us : List Value) (vs : List V) (Q : VK) (E : XK), A.guards = some [] → Room k A → Env0 P w K mg base A outer s H → BindsTo s fd args (ps.zip us) → Vals vs us → sp vs H Q E →
    codeAny (model P w) A (.call (.ref f) args) (CR CX0 outer P w H s Q E) s
section
variable {P : Program} {K : PySem.W.Frag} {w : World} {base : Heap} {mg : Str → Option Value}
theorem okG0 {x qual : Str} {st : Stmt} {f : Addr} {N ps : List Str} {k : Nat} {sp : Sp} {oc kV doc pm cdv ct : Value} {od an : Option Addr} {osl : Array (Option Value)} (lk : K.lookup f = some ⟨oc, od, .func (PySem.W.fnOf x qual (defArgs st) (defBody st) (defScope st) .none kV doc pm an cdv ct), osl⟩) (hcd : PySem.W.codeIn K cdv qual = true)
    (S : FnScope N ps (defScope st)) (len : ∀ vs H Q E, sp vs H Q E → vs.length = ps.length)
    (walk : ∀ (A : Around) (outer : List Env) (s : Shared) (H : Hp) (vs : List V) (Q : VK) (E : XK), A.guards = some [] → Room k (A.deeper (envOfC qual (defScope st) s.heap.objs.size f cdv)) → sp vs H Q E →
      ∃ t, PSs (cxOf CX0 P w K mg base N qual (defScope st) f cdv A outer s H E).nox (defBody st) t ∧ t { nx := fun _ H' => Q .non H', rt := Q } (start N vs) H) : FnG P w K mg base (k + 1) f (PySem.W.fnOf x qual (defArgs st) (defBody st) (defScope st) .none kV doc pm an cdv ct) ps sp := by
  refine ⟨len, ?_⟩
  intro A outer s H args us vs Q E hg room env bind rel want
  have kin : K.In s.heap := env.mod.kin.keeps fun b o e => (env.bs b o e).1
  have nol : s.heap.NoLimit := env.mod.nolimit.keeps fun b o e => (env.bs b o e).1
  obtain ⟨t, ht, goal⟩ := walk A outer s H vs Q E hg (room.deeper _) want
  refine codeAny_call_function room.depth (kin _ _ lk) rfl S.co S.gen rfl (PySem.W.codeRec_of kin hcd) (bind _ _ _ _ (wpAny_newFunctionEnv_cells S.kind (fun y hy => ?_) fun env' ee s1 made => ?_))
  · rcases S.par y.1 (List.of_mem_zip (a := y.1) (b := y.2) hy).1 with h | h
    · exact .inl h
    · exact .inr ⟨h, PySem.W.cellsFrom_some _ _ _ (.inl h)⟩
  · subst ee
    refine ⟨nol.keeps made.toInCall.keep, codeAny_func (wpAny_mono (ht.nox.run [] s1 (start N vs) H _ (inv_start S room.hd env (len _ _ _ _ want) rel made) goal) ?_ fun _ _ h => h)⟩
    intro fl s2 h
    match fl, h with
    | .ret u, ⟨v, σ2, H2, J, rv, q⟩ => exact ⟨v, H2, J.os, J.bare, J.base, J.hok, rv, q⟩
    | .next, ⟨σ2, H2, J, q⟩ => exact ⟨V.non, H2, J.os, J.bare, J.base, J.hok, rfl, q⟩
    | .brk, ⟨_, _, _, q⟩ => exact q.elim
    | .cont, ⟨_, _, _, q⟩ => exact q.elim
theorem okG {x qual : Str} {st : Stmt} {f : Addr} {fd : FuncData} {N ps : List Str} {k : Nat} {sp : Sp} (F : Fun K x qual st f fd) (S : FnScope N ps (defScope st)) (len : ∀ vs H Q E, sp vs H Q E → vs.length = ps.length)
    (walk : ∀ (cdv : Value) (A : Around) (outer : List Env) (s : Shared) (H : Hp) (vs : List V) (Q : VK) (E : XK), A.guards = some [] → Room k (A.deeper (envOfC qual (defScope st) s.heap.objs.size f cdv)) → sp vs H Q E →
      ∃ t, PSs (cxOf CX0 P w K mg base N qual (defScope st) f cdv A outer s H E).nox (defBody st) t ∧ t { nx := fun _ H' => Q .non H', rt := Q } (start N vs) H) : FnG P w K mg base (k + 1) f fd ps sp := by
  obtain ⟨oc, od, kV, doc, pm, an, cdv, ct, osl, rfl, lk, hcd⟩ := F.ex; skip
  exact okG0 lk hcd S len fun A outer s H vs Q E => walk cdv A outer s H vs Q E
/-- a def whose code object is known -/
structure FunC (K : PySem.W.Frag) (x qual : Str) (st : Stmt) (f c : Addr) (fd : FuncData) : Prop where
  ex : ∃ (oc : Value) (od : Option Addr) (kV doc pm : Value) (an : Option Addr) (ct : Value) (osl : Array (Option Value)),
    fd = PySem.W.fnOf x qual (defArgs st) (defBody st) (defScope st) .none kV doc pm an (.ref c) ct ∧ K.lookup f = some ⟨oc, od, .func fd, osl⟩ ∧ PySem.W.codeIn K (.ref c) qual = true
theorem okC {x qual : Str} {st : Stmt} {f c : Addr} {fd : FuncData} {N ps : List Str} {k : Nat} {sp : Sp} (F : FunC K x qual st f c fd) (S : FnScope N ps (defScope st)) (len : ∀ vs H Q E, sp vs H Q E → vs.length = ps.length)
    (walk : ∀ (A : Around) (outer : List Env) (s : Shared) (H : Hp) (vs : List V) (Q : VK) (E : XK), A.guards = some [] → Room k (A.deeper (envOfC qual (defScope st) s.heap.objs.size f (.ref c))) → sp vs H Q E →
      ∃ t, PSs (cxOf CX0 P w K mg base N qual (defScope st) f (.ref c) A outer s H E).nox (defBody st) t ∧ t { nx := fun _ H' => Q .non H', rt := Q } (start N vs) H) : FnG P w K mg base (k + 1) f fd ps sp := by
  obtain ⟨oc, od, kV, doc, pm, an, ct, osl, rfl, lk, hcd⟩ := F.ex
  exact okG0 lk hcd S len walk
end
section
variable {X : Cx} {k i : Nat} {f : Addr} {fd : FuncData} {ps : List Str} {sp : Sp} {x : Str} {p pos : Pos} {e : Expr} {es : List Expr} {t : TA}
def tCallG (sp : Sp) (t : TA) : TE := fun σ H Q => t σ H fun vs H1 => sp vs H1 Q (fun _ _ _ => True)
theorem pe_callG (F : FnG X.prog X.w X.K X.mg X.base k f fd ps sp) (hgd : X.A.guards = some []) (hr : Room k X.A) (hg : Gl X x) (hm : X.mg x = some (.ref f)) (hk : PySem.W.keepIn X.K (.ref f) = true) (hb : Binds X.K fd ps []) (ha : PA X (e :: es) t)
    (hdb : ((x == ("__debug__" : Str)) = false) := by decide) (he : starEach (e :: es) X.env = (false, eval e X.env) :: starEach es X.env := by rfl) (hpl : (backTo pos (starEach es X.env)).any (·.1) = false := by rfl) :
    PE X (.Call (.Name x p) (e :: es) [] pos) (tCallG sp t) := by
  constructor
  intro pins s σ H Q I h
  refine wpAny_Call_Name_kw (ld_glob I hg hm (PySem.W.callWith_K (h₀ := X.base) I.ok.mod.kin hk (thn (ha.run pos pins s σ H _ I h) ?_) he hpl) hdb)
  rintro us s1 ⟨vs, H1, I1, r, q⟩
  refine ⟨I1.kIn, ?_⟩
  have hl : us.length = ps.length := r.length.symm.trans (F.len _ _ _ _ q)
  have b := hb s1 us I1.kIn (by rw [List.append_nil]; exact hl)
  rw [List.append_nil] at b
  refine wpAny_call (codeAny_mono (F.run X.A X.stack s1 H1 ⟨us, []⟩ us vs Q _ hgd hr I1.env0 b r q) ?_)
  intro r s2 hq
  match r, hq with
  | .error _, hq => exact False.elim hq
  | .ok (.ret u), hq => exact I1.after hq
  | .ok .next, hq => exact False.elim hq
  | .ok .brk, hq => exact False.elim hq
  | .ok .cont, hq => exact False.elim hq
/-- a def that may raise, held by a local name -/
structure HeldX (P : Program) (w : World) (K : PySem.W.Frag) (mg : Str → Option Value) (base : Heap) (k : Nat) (f : Addr) (sp : Sp) : Prop where
  ex : ∃ (fd : FuncData) (ps : List Str), FnOk P w K mg base (L2.CX P w) k f fd ps sp ∧ PySem.W.keepIn K (.ref f) = true ∧ Binds K fd ps []
def tCallHX (Hd : Addr → Sp → Prop) (i : Nat) (E : L2.St → XK) (t : TA) : TE := fun σ H Q => ∃ f sp, σ[i]? = some (some (.ref f)) ∧ Hd f sp ∧ t σ H fun vs H1 => sp vs H1 Q (E σ)
theorem pe_callHX {E : L2.St → XK} (hr : Room k X.A) (hN : X.N[i]? = some x) (hv : Vis X.env.scope x) (hx : ∀ σ, PassesAt (L2.CX X.prog X.w) X σ (E σ)) (ha : PA X (e :: es) t) (hdb : (x == ("__debug__" : Str)) = false := by decide) (hcd : (x == ("__classdict__" : Str)) = false := by decide)
    (he : (starEach (e :: es) X.env = (false, eval e X.env) :: starEach es X.env) := by rfl) (hpl : ((backTo pos (starEach es X.env)).any (·.1) = false) := by rfl) :
    PE X (.Call (.Name x p) (e :: es) [] pos) (tCallHX (HeldX X.prog X.w X.K X.mg X.base k) i E t) := by
  constructor
  rintro pins s σ H Q I ⟨f, sp, hs, hH, ht⟩
  obtain ⟨fd, ps, F, hk, hb⟩ := hH.ex
  refine wpAny_Call_Name_kw (thn ((pe_var (pos := p) hN hv hdb hcd).run pins s σ H (fun v H1 => v = .ref f ∧ H1 = H) I ⟨.ref f, hs, rfl, rfl⟩) ?_)
  rintro u s1 ⟨v, H1, I1, r1, rfl, rfl⟩
  cases r1
  exact PySem.W.callWith_K (h₀ := X.base) I.ok.mod.kin hk (thn (ha.run pos pins s1 σ _ _ I1 ht) fun us s2 ⟨vs, H2, I2, r, q⟩ => ⟨I2.kIn, run_fnS F hr hb (hx σ) I2 r q⟩) he hpl
/-- isinstance(the caught error, its own class) -/
def rIsX (a : Addr) (cls : Value) (d : Option Addr) (C : Addr) : List V → Hp → VK → Prop := fun xs H Q => xs = [.ref a, .ref C] ∧ cls = .ref C ∧ (∃ (dd : Addr) (fs : List (Str × V)), d = some dd ∧ H dd = some (.xd fs)) ∧ Q (.bl true) H
theorem call_isX {a C : Addr} {oe : Obj} {cls : Value} {d : Option Addr} {pn : List (Addr × Obj)} (hz : Zc cls d oe) (hf : ∃ vs, oe.data = .fields vs) : CallR (X.suite a ((a, oe) :: pn)) (.builtin "isinstance") (rIsX a cls d C) := by
  rintro pins s σ H xs us Q I r ⟨rfl, rfl, ⟨dd, fs, rfl, hd⟩, q⟩
  obtain ⟨u1, u2, rfl, r1, r2⟩ := vals2 r; skip
  obtain rfl : u1 = Value.ref a := r1
  obtain rfl : u2 = Value.ref C := r2
  obtain ⟨ha, _⟩ := I.pin (a, oe) (List.mem_append_left _ List.mem_cons_self)
  obtain ⟨vs, hv⟩ := hf
  obtain ⟨mA, hns, hr⟩ : ObjOk X.prog X.w H s.heap dd (.xd fs) := I.hok dd _ hd
  obtain ⟨od, ho, hl⟩ := lookIn_ns hns; skip
  have J : PySem.W.InstAt s.heap a oe C (some od) := ⟨ha, hz.1, by unfold PySem.W.notCls; rw [hv] <;> rfl, by rw [hz.2]; exact ho⟩
  refine call_isinstance (S := fun _ R s2 => s2 = s ∧ R (.ok (.ret (.bool true))) s2) ?_ ⟨rfl, .bl true, H, I, rfl, q⟩
  rintro prog w A R s2 ⟨rfl, hR⟩
  refine isinstance_outer ?_ (fun z => by cases z)
  unfold Builtin.«isinstance.nested»; skip
  refine wpAny_bind ((J.type (M := model prog w)).at ?_)
  rw [if_pos (beq_self_eq_true _)]; skip
  first
    | exact wpAny_bind (wpAny_rule (hR))
    | exact wpAny_bind (wpAny_rule (wpAny_pure hR))
    | exact wpAny_pure hR
end
end Pl

namespace Pl
open L2 PySem PySem.Spec PyProof.Rows
abbrev SuT := Value × (Addr → Value → Option Addr → TS)
/-- what clauses «except x as n» (all of one name n, slot i) wish of an exception, one behind another -/
def wAll (K : PySem.W.Frag) (i : Nat) (Wo : WX) (D : Ends) : List SuT → WX
  | [] => Wo
  | q :: r => wAs K q.1 i q.2 (wAll K i Wo D r) D
/-- the clauses, each with its class and its suite -/
inductive Cls (X : Cx) (n : Str) : List ExceptHandler → List SuT → Prop
  | nil : Cls X n [] []
  | cons {x : Str} {c : Value} {ts : Addr → Value → Option Addr → TS} {b1 : Stmt} {bs : List Stmt} {p1 p2 : Pos} {hs : List ExceptHandler} {l : List SuT} (names : Names X x c)
      (suite : ∀ (a : Addr) (o : Obj) (k : Value) (d : Option Addr) (pn : List (Addr × Obj)), Zc k d o → (∃ vs, o.data = .fields vs) → PSs (X.suite a ((a, o) :: pn)) (b1 :: bs) (ts a k d)) (rest : Cls X n hs l) :
      Cls X n (.ExceptHandler (some (.Name x p1)) (some n) (b1 :: bs) p2 :: hs) ((c, ts) :: l)
section
variable {X : Cx} {n : Str} {i : Nat} {Wo : WX} {D : Ends} {pins : List (Addr × Obj)} {H : Hp} {σ : L2.St} {s0 s1 : Shared}
/-- an exception of the class k, dict d, at a, on its way past the clauses -/
structure Onway (X : Cx) (pins : List (Addr × Obj)) (σ : L2.St) (H : Hp) (s0 s1 : Shared) (B : Heap) (a : Addr) (k : Value) (d : Option Addr) (g : Heap) : Prop where
  inv : Inv X pins σ H s0
  fly : HandSPX.FlyingZ B (X.env :: X.outer) a (Zc k d) g
  nb : ∀ b o, s0.heap.get? b = some o → b ∉ frs X.stack → B.get? b = some o
  up : s0.heap.UpToSlots g
  new : H a = none
  os : s1.os = s0.os
  bare : AllBare s1.gens
theorem Onway.now {B g : Heap} {a : Addr} {k : Value} {d : Option Addr} (w : Onway X pins σ H s0 s1 B a k d g) : Inv X pins σ H { s1 with heap := g } := w.inv.landed w.nb w.fly.1 w.up w.os w.bare
theorem Onway.far {B g : Heap} {a : Addr} {k : Value} {d : Option Addr} (w : Onway X pins σ H s0 s1 B a k d g) {o : Obj} {vs : Array Value} (ho : g.get? a = some o) (hd : o.data = .fields vs) : a ∉ frs (X.env :: X.outer) := by
  intro m
  obtain ⟨_, o2, e2, nf⟩ := w.fly.2.2.1.mem m
  cases ho.symm.trans e2
  exact nf _ hd
theorem clauses (hs : X.stack = X.env :: X.outer) (hf : X.env.frame = some X.env.locals) (nd : X.N.Nodup) (hi : X.N[i]? = some n) (hn : X.env.kindOf n = some .local) (tk : Takes X Wo) {B : Heap} {a : Addr} {k : Value} {d : Option Addr} {hds : List ExceptHandler} {l : List SuT} (cl : Cls X n hds l) :
    ∀ g : Heap, Onway X pins σ H s0 s1 B a k d g → wAll X.K i Wo D l k d σ H → wpAny (model X.prog X.w) X.A (handleBy (.ref a) X.env hds) (SP X pins D) X.xe { s1 with heap := g } := by
  induction cl with
  | nil =>
    intro g w hw
    refine wpAny_handleBy_nil ?_
    obtain ⟨_, _, _, o, vs, T, _, _, ho, _, hd, h1, _⟩ := id w.fly
    have last : wpAny (model X.prog X.w) X.A (setFlight (.ref a) X.env.frame) (fun _ s4 => wpAny (model X.prog X.w) X.A (throw (.ref a) : Sem Flow) (SP X pins D) X.xe s4) X.xe { s1 with heap := g } := by
      rw [hf]
      exact HandSPX.setFlight_upZ w.fly fun h4 held more => wpAny_throw (tk _ _ ⟨a, B, s0, pins, σ, H, k, d, rfl, w.inv, w.nb, w.up.trans more, .inr (.inr (hs ▸ held)), w.new, w.os, w.bare, hw⟩)
    unfold PySem.passOn
    refine wpAny_bind (wpAny_field ho hd h1 ?_)
    rw [if_neg (by simp : ¬ ((Value.ref T == Value.none) = true))]
    first | exact wpAny_bind last | exact wpAny_bind (wpAny_pure (wpAny_bind last))
  | @cons x c ts b1 bs p1 p2 hds2 l2 names suite rest ih =>
    intro g w hw
    obtain ⟨b, hb, yes, no⟩ := hw
    obtain ⟨o, vs, ho, hz, hd⟩ := w.fly.there
    have notL : a ≠ X.env.locals := fun e => w.far ho hd (List.mem_filterMap.mpr ⟨X.env, List.mem_cons_self, by rw [hf, e]⟩)
    have notF : a ∉ X.fs := fun m => by
      obtain ⟨e, he, q⟩ := List.mem_filterMap.mp m
      exact w.far ho hd (List.mem_filterMap.mpr ⟨e, List.mem_cons_of_mem _ he, q⟩)
    refine wpAny_handleBy_cons (codeAny_handlers_test ?_) (fun q => by cases q)
    have look : PySem.W.Looks (model X.prog X.w) g (typeOf (.ref a)) k := fun A Q E s kp q => wpAny_typeOf_ref (kp _ _ ho) (hz.1 ▸ q)
    have told := PySem.W.exm_one (M := model X.prog X.w) w.now.kIn look hb
    have inS := w.now.suite ho hd w.new notL notF
    have asked : ∀ {Q E : Value → Shared → Prop}, Q c { s1 with heap := g } → wpAny (model X.prog X.w) (X.A.mark (some (.ref a))) (eval (.Name x p1) X.env) Q E { s1 with heap := g } := fun {Q E} q => by
      rcases names with ⟨gl, db, m | ⟨m, v, nn⟩⟩
      · exact ld_glob (X := X.suite a ((a, o) :: (X.pn ++ pins))) inS gl m q db
      · exact ld_blt (X := X.suite a ((a, o) :: (X.pn ++ pins))) inS gl m v q nn db
    refine asked (told.here ?_)
    cases b with
    | false => exact ih g w (no rfl)
    | true =>
      refine codeAny_handlers_suite_as (HandSPX.lands_againZ w.fly fun g4 fly4 up4 => ?_)
      have w4 : Onway X pins σ H s0 s1 B a k d g4 := ⟨w.inv, fly4, w.nb, w.up.trans up4, w.new, w.os, w.bare⟩
      obtain ⟨o4, vs4, ho4, hz4, hd4⟩ := w4.fly.there
      refine store_ok (X := X.suite a ((a, o4) :: (X.pn ++ pins))) (v := .ref a) (w4.now.suite ho4 hd4 w4.new notL notF) nd hi (.inl hn) rfl (fun s5 I5 => ?_) (.inr hn)
      refine wpAny_mono ((suite a o4 k d (X.pn ++ pins) hz4 ⟨_, hd4⟩).run [] s5 _ H _ I5 (yes rfl a w4.new)) (fun f s6 hsp => ?_) (fun _ _ z => z.elim)
      have behind : ∀ {σ6 : L2.St} {H6 : Hp} {Q : Shared → Prop}, Inv (X.suite a ((a, o4) :: (X.pn ++ pins))) [] σ6 H6 s6 → (∀ s7, Inv X pins (σ6.set i none) H6 s7 → Q s7) →
          wpAny (model X.prog X.w) X.A (do bindName X.env n .none; unbindBehindTheSuite X.env n p2) (fun _ s7 => Q s7) X.xe s6 := fun {σ6 H6 Q} I6 q => gone_ok (I6.unsuite w.inv.ok) nd hi hn q
      cases f with
      | ret u =>
        obtain ⟨v, σ6, H6, I6, r, q⟩ := hsp
        exact behind I6 fun s7 I7 => ⟨_, _, _, I7, r, q⟩
      | next =>
        obtain ⟨σ6, H6, I6, q⟩ := hsp
        exact behind I6 fun s7 I7 => ⟨_, _, I7, q⟩
      | brk =>
        obtain ⟨σ6, H6, I6, q⟩ := hsp
        exact behind I6 fun s7 I7 => ⟨_, _, I7, q⟩
      | cont =>
        obtain ⟨σ6, H6, I6, q⟩ := hsp
        exact behind I6 fun s7 I7 => ⟨_, _, I7, q⟩
/-- try: body / except x as n: .. / except y as n: .. -/
theorem ps_try_all {body : List Stmt} {h0 : ExceptHandler} {hds : List ExceptHandler} {l : List SuT} {pos : Pos} {tb : WX → TS} (hs : X.stack = X.env :: X.outer) (hf : X.env.frame = some X.env.locals) (nd : X.N.Nodup) (hi : X.N[i]? = some n) (hn : X.env.kindOf n = some .local) (tk : Takes X Wo)
    (hb : ∀ (W : WX) (pn : List (Addr × Obj)) (xe : Value → Shared → Prop), Takes (X.tr pn xe) W → PassesOwn (model X.prog X.w) X.A X.env xe → PSs (X.tr pn xe) body (tb W)) (cl : Cls X n (h0 :: hds) l) :
    PS X (.Try body (h0 :: hds) [] [] pos) (fun D σ H => tb (wAll X.K i Wo D l) D σ H) := by
  constructor
  intro pins s σ H D I h
  have ok := I.ok
  have frames : X.A.frames = some (X.env :: X.outer) := by rw [ok.frames, hs]
  refine wpAny_Try_except (wpAny_mono ((hb (wAll X.K i Wo D l) (X.pn ++ pins) (fun e sa => wpAny (model X.prog X.w) X.A (noteFrame e X.env) (fun _ sb => wpAny (model X.prog X.w) X.A (setFlight e none) (fun _ sc =>
    wpAny (model X.prog X.w) X.A (handleBy e X.env (h0 :: hds)) (SP X pins D) X.xe sc) X.xe sb) X.xe sa) (fun u s1 thrown => ?_) PassesOwn.looking).run [] s σ H D (I.toTry _) h) (fun f s1 hsp => ?_) (fun _ _ z => z))
  · obtain ⟨a, B, s0, ps, σ1, H1, k, d, rfl, I1, nb, up, sky, new, os, bare, hw⟩ := thrown
    refine Sky.land Zc.steady frames hf (hs ▸ sky) fun g fly more => ?_
    exact clauses hs hf nd hi hn tk cl g ⟨I1.ofTry ok, fly, nb, up.trans more, new, os, bare⟩ hw
  · cases f with
    | ret u =>
      obtain ⟨v, σ1, H1, I1, r, q⟩ := hsp
      exact ⟨v, σ1, H1, I1.ofTry ok, r, q⟩
    | next =>
      obtain ⟨σ1, H1, I1, q⟩ := hsp
      exact wpAny_execs_nil ⟨σ1, H1, I1.ofTry ok, q⟩
    | brk =>
      obtain ⟨σ1, H1, I1, q⟩ := hsp
      exact ⟨σ1, H1, I1.ofTry ok, q⟩
    | cont =>
      obtain ⟨σ1, H1, I1, q⟩ := hsp
      exact ⟨σ1, H1, I1.ofTry ok, q⟩
end
end Pl

namespace Pl
open L2 PySem PySem.Spec PyProof.Rows
/-- the law is entered: tables (of code objects; cs: both) stand empty, nothing is being written out -/
theorem law_callM {P : Program} {w : World} {K : PySem.W.Frag} {mg mb : Str → Option Value} {k : Nat} {fa a : Addr} {cs : List (Addr × Addr)} {fd : FuncData} {x : Str} {sp : Sp} {t : Shared} {us : List Value} {ns : List Int}
    (kin : K.In t.heap) (gns : t.heap.Ns mainGlobals mg) (bns : t.heap.Ns builtinsNs mb) (bbt : ∀ y : Str, y ≠ "__name__" → mb y = bootBuiltins y) (nol : t.heap.NoLimit) (gen : t.gens = #[])
    (tab : ∀ q ∈ cs, t.heap.get? q.2 = some { cls := .none, data := .fields #[] }) (notK : ∀ q ∈ cs, K.lookup q.2 = none) (hc : ∀ q ∈ cs, PySem.W.CodeHd t.heap q.1 q.2)
    (bmn : ∃ (bm : Addr) (ob : Obj), mg "__builtins__" = some (.ref bm) ∧ bm ≠ builtinsNs ∧ t.heap.get? bm = some ob ∧ ob.cls = .type "module" ∧ ob.dict = some builtinsNs ∧ ob.data = .plain)
    (la : t.heap.get? a = some { cls := .type "list", data := .seq us.toArray }) (nums : IntsAre us ns) (short : ns.length ≤ sizeLine) (room : Room k callerA)
    (fn : ∀ base : Heap, K.In base → base.Ns mainGlobals mg → (∀ q ∈ cs, LamX.TabB base mg q.1 q.2) → FnG P w K mg base k fa fd [x] sp) (bind : ∀ (s : Shared) (u : Value), BindsTo s fd ⟨[u], []⟩ [(x, u)])
    (want : ∀ H : Hp, (∀ q ∈ cs, H q.2 = some (.tbl #[])) → SqL K H a (ns.map V.int) → sp [.ref a] H (fun v _ => v = .bl true) fun _ _ _ => True) :
    codeAny (model P w) callerA (.call (.ref fa) ⟨[.ref a], []⟩) (fun r s2 => r = .ok (.ret (.bool true)) ∧ OldK t.heap s2.heap ∧ s2.os = t.os ∧ AllBare s2.gens) t := by
  have rel := vals_ints nums
  have count := nums.length
  have at_ : ∀ b, (∃ q ∈ cs, b = q.2) → t.heap.get? b = some { cls := .none, data := .fields #[] } := fun b ⟨q, hq, e⟩ => e ▸ tab q hq
  have aPt : ¬ ∃ q ∈ cs, a = q.2 := fun e => by
    rw [at_ a e] at la
    have z : Data.fields #[] = Data.seq us.toArray := congrArg Obj.data (Option.some.inj la)
    cases z
  have main : ∀ H : Hp, (∀ q ∈ cs, H q.2 = some (.tbl #[])) → (∀ b, H b = none ∨ (∃ q ∈ cs, b = q.2) ∨ ∃ o xs, H b = some (.frz o (.lst xs))) → SqL K H a (ns.map V.int) → HOk P w H t.heap → (∀ b, H b ≠ none → b = a ∨ ∃ q ∈ cs, b = q.2) → (H a ≠ none → K.lookup a = none) →
      codeAny (model P w) callerA (.call (.ref fa) ⟨[.ref a], []⟩) (fun r s2 => r = .ok (.ret (.bool true)) ∧ OldK t.heap s2.heap ∧ s2.os = t.os ∧ AllBare s2.gens) t := by
    intro H hPt kinds seq ok only free
    have look : ∀ {b : Addr} {o : Obj}, t.heap.get? b = some o → H b = none → (hidT t.heap H).get? b = some o := fun {b o} e n => hidT_get e n
    have off : ∀ {b : Addr} {o : Obj}, t.heap.get? b = some o → (∀ ws n, o.data ≠ .seq ws n) → o.data ≠ .fields #[] → H b = none := fun {b o} e n1 n2 => by
      cases hb : H b with
      | none => rfl
      | some u =>
        rcases only b (by rw [hb]; simp) with rfl | isT
        · rw [la] at e
          cases e
          exact absurd rfl (n1 _ _)
        · rw [at_ b isT] at e
          cases e
          exact absurd rfl n2
    have nspace : ∀ {b : Addr} {m : Str → Option Value}, t.heap.Ns b m → (hidT t.heap H).Ns b m := fun {b m} ⟨o, es, ep, e, d, r⟩ =>
      ⟨o, es, ep, look e (off e (fun ws n z => by rw [d] at z; cases z) fun z => by rw [d] at z; cases z), d, r⟩
    have kbase : K.In (hidT t.heap H) := fun b o e => look (kin b o e) (by
      cases hb : H b with
      | none => rfl
      | some u =>
        rcases only b (by rw [hb]; simp) with rfl | ⟨q, hq, rfl⟩
        · rw [free (by rw [hb]; simp)] at e
          cases e
        · rw [notK q hq] at e
          cases e)
    obtain ⟨mc, l1, l2⟩ := nol
    have modu : L2.Mod K mg (hidT t.heap H) := ⟨kbase, nspace gns, ⟨mb, nspace bns, bbt⟩, mc, nspace l1, l2⟩
    have tabs : ∀ q ∈ cs, LamX.TabB (hidT t.heap H) mg q.1 q.2 := fun q hq => by
      have tabq := tab q hq
      obtain ⟨oc, fs, file, tf, flags, tg, inF, text, tt, e1, r1, r2, r3, r4, r5, r6, r7, r8, r9⟩ := id (hc q hq)
      obtain ⟨bm, ob, b1, b2, b3, b4, b5, b6⟩ := bmn
      obtain ⟨og, eg, epg, g1, g2, _⟩ := id gns
      refine ⟨⟨oc, fs, file, tf, flags, tg, inF, text, tt, look e1 (off e1 (fun ws n z => ?_) fun z => ?_), r1, r2, r3, r4, r5, r6, r7, r8, r9⟩, ⟨bm, ob, b1, b2, fun z => ?_, fun z => ?_, look b3 (off b3 (fun ws n z => ?_) fun z => ?_), b4, b5, b6⟩, fun z => ?_⟩
      · rw [r2] at z
        cases z
      · rw [r2] at z
        cases z
        simp at r3
      · rw [z, g1] at b3
        cases b3
        rw [g2] at b6
        cases b6
      · rw [z, tabq] at b3
        cases b3
        cases b6
      · rw [b6] at z
        cases z
      · rw [b6] at z
        cases z
      · rw [z, tabq] at g1
        cases g1
        cases g2
    have env : Env0 P w K mg (hidT t.heap H) callerA [] t H := ⟨rfl, modu, fun b o e => of_hidT e, Nat.le_of_eq (hidT_size _ _), trivial, (fun b hb => absurd (show b ∈ ([] : List Addr) from hb) List.not_mem_nil), ok, .of_eq gen⟩
    refine codeAny_mono ((fn _ kbase (nspace gns) tabs).run callerA [] t H ⟨[.ref a], []⟩ [.ref a] [.ref a] _ _ rfl room env (bind t (.ref a)) (.cons rfl .nil) (want H hPt seq)) ?_
    intro r s2 hr
    match r, hr with
    | .error _, hr => exact False.elim hr
    | .ok .next, hr => exact False.elim hr
    | .ok .brk, hr => exact False.elim hr
    | .ok .cont, hr => exact False.elim hr
    | .ok (.ret u), ⟨v, H2, os, bare, un, ok2, ru, ev⟩ =>
      obtain rfl : v = .bl true := ev
      obtain rfl : u = Value.bool true := ru
      have stay : ∀ b o, (¬ ∃ q ∈ cs, b = q.2) → t.heap.get? b = some o → s2.heap.get? b = some o := fun b o nb e => by
        rcases kinds b with hb | hb | ⟨ob, xs, hb⟩
        · exact un.keep b o e hb (fun z => absurd (show b ∈ ([] : List Addr) from z) List.not_mem_nil) (by simp)
        · exact absurd hb nb
        · obtain ⟨i1, _⟩ := ok b _ hb
          obtain ⟨i2, _⟩ := ok2 b _ (un.frzs b ob _ hb)
          rw [e] at i1
          cases i1
          exact i2
      have now : ∀ q ∈ cs, ∃ more : Array Value, s2.heap.get? q.2 = some { cls := .none, data := .fields (#[] ++ more) } := fun q hq => by
        obtain ⟨more, grow⟩ := un.tbls q.2 #[] (hPt q hq)
        exact ⟨more, ok2 q.2 _ grow⟩
      refine ⟨rfl, ⟨fun b o e => ?_, fun b o e => ?_⟩, os, bare⟩; skip
      · by_cases hb : ∃ q ∈ cs, b = q.2
        · obtain ⟨q, hq, rfl⟩ := hb
          obtain ⟨more, hm⟩ := now q hq
          have tabq := tab q hq
          rw [tabq] at e
          cases e
          exact .inr (.inl ⟨((hc q hq).tab tabq).isCodeTable, rfl, #[], more, rfl, hm⟩)
        · exact .inl (stay b o hb e)
      · by_cases hb : ∃ q ∈ cs, b = q.2
        · obtain ⟨q, hq, rfl⟩ := hb
          obtain ⟨more, hm⟩ := now q hq
          exact ⟨_, hm⟩
        · exact ⟨o, stay b o hb e⟩
  cases hk : K.lookup a with
  | some o =>
    have e := kin a o hk
    rw [la] at e
    cases e
    refine main (fun b => if ∃ q ∈ cs, b = q.2 then some (.tbl #[]) else none) (fun q hq => if_pos ⟨q, hq, rfl⟩) (fun b => ?_) (.inr ⟨_, us.toArray, _, hk, rfl, rfl, rfl, by rw [List.size_toArray, count]; exact short, by simpa using rel⟩) (fun b u z => ?_) (fun b z => ?_) fun z => absurd (if_neg aPt) z
    · by_cases hb : ∃ q ∈ cs, b = q.2
      · exact .inr (.inl hb)
      · exact .inl (if_neg hb)
    · by_cases hb : ∃ q ∈ cs, b = q.2
      · have z2 := (if_pos hb).symm.trans z
        cases z2
        exact at_ b hb
      · have z2 := (if_neg hb).symm.trans z
        cases z2
    · by_cases hb : ∃ q ∈ cs, b = q.2
      · exact .inr hb
      · exact absurd (if_neg hb) z
  | none =>
    refine main (fun b => if b = a then some (.frz { cls := .type "list", data := .seq us.toArray } (.lst (ns.map V.int))) else if ∃ q ∈ cs, b = q.2 then some (.tbl #[]) else none) (fun q hq => (if_neg (fun e => aPt ⟨q, hq, e.symm⟩)).trans (if_pos ⟨q, hq, rfl⟩)) (fun b => ?_) (.inl (.inr ⟨_, if_pos rfl⟩)) (fun b u z => ?_) (fun b z => ?_) fun _ => hk
    · by_cases h1 : b = a
      · exact .inr (.inr ⟨_, _, if_pos h1⟩)
      · by_cases h2 : ∃ q ∈ cs, b = q.2
        · exact .inr (.inl h2)
        · exact .inl ((if_neg h1).trans (if_neg h2))
    · by_cases h1 : b = a
      · have z2 := (if_pos h1).symm.trans z
        cases z2
        rw [h1]
        exact ⟨la, by rw [List.length_map]; exact short, us, _, rel, la⟩
      · have z2 := (if_neg h1).symm.trans z
        by_cases h2 : ∃ q ∈ cs, b = q.2
        · have z3 := (if_pos h2).symm.trans z2
          cases z3
          exact at_ b h2
        · have z3 := (if_neg h2).symm.trans z2
          cases z3
    · by_cases h1 : b = a
      · exact .inl h1
      · by_cases h2 : ∃ q ∈ cs, b = q.2
        · exact .inr h2
        · exact absurd ((if_neg h1).trans (if_neg h2)) z
/-- what the top leaves of the law: T, the tables with the names of what is made there -/
def LawM (l : PySem.W.OpenLaw) (w : World) (K : PySem.W.Frag) (mg : Str → Option Value) (fa : Addr) (h : Heap) (k : Nat) (sp : List (Addr × Addr) → Sp) : Prop :=
  ∃ (fd : FuncData) (cs : List (Addr × Addr)), (∀ q ∈ cs, h.get? q.2 = some { cls := .none, data := .fields #[] }) ∧ (∀ q ∈ cs, K.lookup q.2 = none) ∧ (∀ q ∈ cs, PySem.W.CodeHd h q.1 q.2) ∧ (∀ (s : Shared) (u : Value), BindsTo s fd ⟨[u], []⟩ [("_law_script", u)]) ∧
    ∀ base : Heap, K.In base → base.Ns mainGlobals mg → (∀ q ∈ cs, LamX.TabB base mg q.1 q.2) → FnG l.prog w K mg base k fa fd ["_law_script"] (sp cs)
theorem walkM {l : PySem.W.OpenLaw} {n k : Nat} {qp : Program} {loose : List Str} {XP : (Str → Option Value) → Heap → Prop} {YP : World → Heap → Prop} {d : DefRec} {K : Params → PySem.W.Frag} {sp : World → List (Addr × Addr) → Sp}
    (hn : l.most = some n) (hn2 : n ≤ sizeLine) (hdf : d.params.defaults = []) (room : Room k callerA) (hY : ∀ (w : World) (h : Heap), YP w h → (K w.params).In h)
    (want : ∀ (w : World) (cs : List (Addr × Addr)) (H : Hp) (a : Addr) (ns : List Int), (∀ q ∈ cs, H q.2 = some (.tbl #[])) → SqL (K w.params) H a (ns.map V.int) → sp w cs [.ref a] H (fun v _ => v = .bl true) fun _ _ _ => True)
    (F : ∀ (w : World) (mg : Str → Option Value) (fa : Addr) (h : Heap), YP w h → (K w.params).In h → h.Ns mainGlobals mg → mg d.name = some (.ref fa) → LawM l w (K w.params) mg fa h k (sp w)) :
    PySem.W.WalkO qp loose XP YP l.row.toRowW d [] (fun f vs => PySem.call f vs) := by
  refine Att.attach_callB hn hdf ?_
  intro w s₀ s₁ mg mb fa o pm cd doc a vs ns G Y ho hd hcd hmg hobj hints hlen hbits hg
  obtain ⟨fd, cs, tab, notK, hc, bind, fn⟩ := F w mg fa _ Y (hY w _ Y) G.T.g hmg
  exact law_callM (hY w _ Y) G.T.g G.T.b G.T.builtins G.T.nolimit hg tab notK hc G.T.bmain hobj hints (Nat.le_trans hlen hn2) room fn bind fun H hPt seq => want w cs H a ns hPt seq
end Pl

namespace Pl
open L2 PySem PySem.Spec PyProof.Rows
set_option maxHeartbeats 4100000 in
/-- enumerate(v) of anything that begins so -/
theorem meets_enumB {v : Value} {o : Obj} {Hb : Heap → Prop} (B : Begins v o Hb) :
    Meets (Builtin.«enumerate.__new__» ⟨[.type "enumerate", v], []⟩) (fun _ R s => Hb s.heap ∧
      R (.ok (.ret (.ref (s.heap.push o).objs.size))) { s with heap := (s.heap.push o).push { cls := .type "enumerate", data := .fields #[.none, .bool false, .ref s.heap.objs.size, rawInt 0, .none, .none] } }) := by
  refine .of_wp ?_
  rintro prog w A R ⟨hp, gn, dr, tk, os⟩ ⟨h1, goal⟩
  have isub := sub_enumerate
  have first_ : ∀ {A' : Around} {E : Value → Shared → Prop} {Q : Value → Shared → Prop}, Q (.ref hp.objs.size) ⟨hp.push o, gn, dr, tk, os⟩ → wpAny (model prog w) A' (pyIter v) Q E ⟨hp, gn, dr, tk, os⟩ := fun q => B.iter prog w _ _ ⟨hp, gn, dr, tk, os⟩ _ h1 q
  wp_walk using first_
  refine wpAny_stack_any fun st => wpAny_pure ?_; skip
  split
  · rename_i c _ _ _ _ _
    cases (c == Value.type "enumerate") <;> (wp_walk using first_; exact ⟨_, rfl, goal⟩)
  · wp_walk using first_
    exact ⟨_, rfl, goal⟩
theorem enum_new {prog : Program} {w : World} {A : Around} {E : Value → Shared → Prop} {s : Shared} {v : Value} {o : Obj} {Hb : Heap → Prop} {Q : Value → Shared → Prop} (B : Begins v o Hb) (h1 : Hb s.heap)
    (q : ∀ g, IsEnum g (s.heap.objs.size + 1) s.heap.objs.size 0 .none → g.get? s.heap.objs.size = some o → (∀ b u, s.heap.get? b = some u → g.get? b = some u) → Q (.ref (s.heap.objs.size + 1)) { s with heap := g }) :
    wpAny (model prog w) A (call (.type "enumerate") [v]) Q E s := by
  refine callType_new F.called_enumerate (by decide) (F.typeCall_enumerate_1 _) (F.newCall_enumerate_1 _) (fun obj => F.args_object_init_2 obj _) F.entry_enumerate_new (meets_enumB B) ⟨h1, ?_⟩
  have size : (s.heap.push o).objs.size = s.heap.objs.size + 1 := Heap.size_push ..
  have at_ := Heap.get?_push_size (s.heap.push o) (o := { cls := .type "enumerate", data := .fields #[.none, .bool false, .ref s.heap.objs.size, rawInt 0, .none, .none] }) rfl
  rw [size] at at_
  show _ ∧ _
  rw [size]
  exact ⟨⟨_, at_, rfl⟩, q _ at_ (Heap.get?_push_of_some _ (Heap.get?_push_size _ B.free)) fun b u e => Heap.get?_push_of_some _ (Heap.get?_push_of_some _ e)⟩
/-- the tuple at a, each item with its number in a new pair -/
def Iet (K : PySem.W.Frag) (a : Addr) : It :=
  ⟨fun i H => ∃ (xs : List V) (x : V), SqT K H a xs ∧ xs[i]? = some x, fun i H v G => ∃ T x, v = .ref T ∧ H T = none ∧ G = upd H T (.tup [.int (i : Nat), x]) ∧ ∀ xs, SqT K H a xs → xs[i]? = some x, fun i H => ∃ xs : List V, SqT K H a xs ∧ xs.length = i⟩
theorem turn_enumT {P : Program} {w : World} {K : PySem.W.Frag} {elts : List Expr} {kk : Nat} {tpos : Pos} (a e it : Addr) :
    Turn P w K (.Tuple elts kk tpos) (Iet K a) [e, it] e (fun i h => (∃ old, IsEnum h e it ((i : Nat) : Int) old) ∧ h.IsTupleIter it a i ∧ e ≠ it ∧ a ≠ it ∧ a ≠ e) where
  mem := List.mem_cons_self
  obj := by
    rintro i h ⟨⟨old, he⟩, ⟨o, ho, hc, hd⟩, _⟩ b hb
    rcases List.mem_cons.mp hb with rfl | hb; skip
    · exact ⟨_, he, fun v q => nomatch q⟩
    · rw [List.mem_singleton.mp hb]; skip
      exact ⟨o, ho, fun v q => by rw [hd] at q; cases q⟩
  keep := by
    rintro i h g ⟨⟨old, he⟩, hit, n⟩ k
    exact ⟨⟨old, k e (by simp) _ he⟩, hit.at fun o q => k it (by simp) o q, n⟩
  item := by
    rintro X rfl rfl rfl hc i pins s σ H E I hf ⟨⟨old, he⟩, hit, n1, n2, n3⟩ ⟨xs, x, hq, hx⟩
    obtain ⟨its, rv, p, hz⟩ := I.tuple hq; skip
    obtain ⟨u, hu, ru⟩ := rv.get hx; skip
    have le : e < s.heap.objs.size := Heap.lt_size he
    have li : it < s.heap.objs.size := by
      obtain ⟨_, q, _⟩ := hit
      exact Heap.lt_size q
    have lt : i < its.toArray.size := by
      rw [List.size_toArray]
      exact (List.getElem?_eq_some_iff.mp hu).1
    refine wpAny_pyNext_enum_itemD (Draws.tuple (A := X.A.in1) (I.ok.hd hc) it a n2 its.toArray) he ⟨hit, p⟩ lt n1 (by simp [n1, n3.symm]) fun y g tk hy ho st hT size hk => ?_
    have ey : y = u := by
      have e1 : its[i]? = some y := by simpa using hy
      exact Option.some.inj (e1.symm.trans hu)
    subst ey
    refine ⟨_, rfl, wpAny_letOwnedTupleGo_enum (s := { s with heap := g, toks := tk + 1 }) ho fun g2 he2 sb => ?_⟩
    have hT2 : g2.get? s.heap.objs.size = some { cls := .type "tuple", data := .seq #[.int i tk, y] } := (sb.2 _ (Nat.ne_of_gt le)).trans hT
    have new : ObjOk X.prog X.w (upd H s.heap.objs.size (.tup [.int (i : Nat), x])) g2 s.heap.objs.size (.tup [.int (i : Nat), x]) := ⟨by show 2 ≤ sizeLine; decide, [.int i tk, y], .cons ⟨_, rfl⟩ (.cons ru .nil), ⟨_, hT2, rfl, _, rfl⟩⟩
    have I1 : Inv X pins σ (upd H s.heap.objs.size (.tup [.int (i : Nat), x])) { s with heap := g2, toks := tk + 1 } :=
      I.turnedNew (ch := [e, it])
        (fun b ob hb q => (sb.2 b (fun z => hb (by simp [z]))).trans (hk b ob (fun z => hb (by simp [z])) (fun z => hb (by simp [z])) q)) hf (Nat.le_refl _) new
    refine ⟨.ref s.heap.objs.size, _, I1, rfl, ⟨_, x, rfl, I.hok.fresh (Nat.le_refl _), rfl, fun ys hy => ?_⟩, ⟨⟨y, ?_⟩, st.1.at fun o q => (sb.2 it (Ne.symm n1)).trans q, n1, n2, n3⟩, fun b hb => ?_⟩
    · rw [I.tuple_inj hy hq]
      exact hx
    · rw [show ((i + 1 : Nat) : Int) = (i : Int) + 1 from by omega]
      exact he2
    · have lb : b < s.heap.objs.size := by
        rcases List.mem_cons.mp hb with rfl | hb; skip
        · exact le
        · rw [List.mem_singleton.mp hb]; skip
          exact li
      rw [upd_ne (Nat.ne_of_lt lb)]
      exact (hf b hb).1
  done := by
    rintro X rfl rfl rfl hc i pins s σ H E I hf ⟨⟨old, he⟩, hit, n1, n2, n3⟩ ⟨xs, hq, hx⟩
    obtain ⟨its, rv, p, hz⟩ := I.tuple hq; skip
    obtain ⟨f0, f1, f2, f3, f4, f5⟩ := hf it (by simp); skip
    have len : its.toArray.size = i := by
      rw [List.size_toArray, ← rv.length]
      exact hx
    subst len
    exact wpAny_pyNext_enum_endD (Draws.tuple (A := X.A.in1) (I.ok.hd hc) it a n2 its.toArray) he ⟨hit, p⟩ fun g eb => ⟨rfl, I.turned (t' := s.toks) (fun b o hb q => eb b o hb q) f0 f1 f3 f4 f5⟩
  self := fun A i s Q E st hh => let ⟨⟨_, he⟩, _⟩ := st; wpAny_pyIter_enum he hh
def iEnumT (K : PySem.W.Frag) (ta : TA) : TI := fun σ H R => ta σ H fun vs H1 => ∃ a xs, vs = [.ref a] ∧ SqT K H1 a xs ∧ R (Iet K a) H1
theorem pi_enumT {X : Cx} {e : Expr} {ta : TA} {p pos tpos : Pos} {elts : List Expr} {kk : Nat} (hg : Gl X "enumerate") (hm : X.mg "enumerate" = none) (ha : PA X [e] ta) (hs : (starEach [e] X.env = [(false, eval e X.env)]) := by rfl) :
    PI X (.Tuple elts kk tpos) (.Call (.Name "enumerate" p) [e] [] pos) (iEnumT X.K ta) := by
  constructor
  intro pins s σ H R I h
  refine Call_ (ld_blt I hg hm boot_enumerate (PyProof.Rows.callWith_type1 (thn (ha.run pos pins s σ H _ I h) ?_) hs rfl))
  rintro us s1 ⟨vs, H1, I1, r1, a, xs, rfl, hq, q⟩
  obtain ⟨u, rfl, ru⟩ := vals1 r1; skip
  cases ru
  obtain ⟨its, rv, pt, hz⟩ := I1.tuple hq; skip
  refine enum_new (begins_tuple a its.toArray) pt fun g he hi hk => wpAny_pyIter_enum he ?_
  have la : a < s1.heap.objs.size := by
    obtain ⟨o, ho, _⟩ := pt
    exact Heap.lt_size ho
  refine ⟨s1.heap.objs.size + 1, [s1.heap.objs.size + 1, s1.heap.objs.size], _, _, H1, rfl, I1.kept (t' := s1.toks) hk, turn_enumT a (s1.heap.objs.size + 1) s1.heap.objs.size, ⟨⟨.none, he⟩, ⟨_, hi, rfl, rfl⟩, Nat.succ_ne_self _, Nat.ne_of_lt la, Nat.ne_of_lt (Nat.lt_succ_of_lt la)⟩, fun b hb => ?_, q⟩
  have le : s1.heap.objs.size ≤ b := by
    rcases List.mem_cons.mp hb with rfl | hb; skip
    · exact Nat.le_succ _
    · rw [List.mem_singleton.mp hb]; skip
      exact Nat.le_refl _
  exact I1.fpOk le (I1.hok.fresh le)
theorem walk_enumT {K : PySem.W.Frag} {a : Addr} {xs : List V} : Walk (Iet K a) xs.length (fun H => SqT K H a xs) (YPair (fun i => some (.int (i : Nat))) (fun i => xs[i]?)) := by
  refine ⟨fun i _ hi q => ⟨xs, xs[i], q, by simp [hi]⟩, fun _ q => ⟨xs, q, rfl⟩, ?_⟩
  rintro i H v H' _ q ⟨T, x, h1, h2, h3, h4⟩
  exact ⟨T, .int (i : Nat), x, h1, h2, h3, rfl, h4 xs q⟩; skip
end Pl

namespace Pl
open PySem PySem.Spec PyProof.Rows L2 PySem.W
/-! ### set(a list of tuples of ints), of which few are unlike -/
theorem few_of {α : Type} [BEq α] [LawfulBEq α] : ∀ {l D : List α}, l.Nodup → (∀ x ∈ l, x ∈ D) → l.length ≤ D.length
  | [], _, _, _ => Nat.zero_le _
  | x :: l, D, hn, hs => by
    have q := List.nodup_cons.mp hn
    have ih := few_of (l := l) (D := D.erase x) q.2 fun y hy => (List.mem_erase_of_ne fun (e : y = x) => q.1 (e ▸ hy)).2 (hs y (List.mem_cons_of_mem _ hy))
    have hx : x ∈ D := hs x List.mem_cons_self; skip
    have e := List.length_erase_of_mem hx; skip
    have hp : 0 < D.length := List.length_pos_of_mem hx; skip
    rw [List.length_cons]
    omega
abbrev AT := Addr × List Int
section
variable {P : Program} {w : World} {I : Addr} {fp wr : List Addr} {G : Array GenState → Array GenState → Prop} {n : Nat} {V0 : Nat → Value → Prop} {St : Nat → Shared → Prop}
/-- some set stands that has got the first i -/
def HasT (P : Program) (w : World) (S : Addr) (ks : List AT) (i : Nat) (h : Heap) : Prop := ∃ L es ep t, SetTR P w h S L es ep t ∧ Got ks i L
theorem HasT.few {S : Addr} {ks pool : List AT} {i : Nat} {h : Heap} {L : List AT} {es : Array (Int × Value)} {ep : Nat} {t : SetTable} (R : SetTR P w h S L es ep t) (g : Got ks i L) {D : List (List Int)} (hD : ∀ p ∈ ks, p.2 ∈ D) : L.length ≤ D.length := by
  have e : (L.map (·.2)).length = L.length := List.length_map _
  rw [← e]
  refine few_of R.nd fun x hx => ?_
  obtain ⟨p, hp, rfl⟩ := List.mem_map.mp hx
  exact hD p (List.mem_of_mem_take (g.sub p hp))
theorem fill_tups (S : Addr) (ks : List AT) (D : List (List Int)) (hD : ∀ p ∈ ks, p.2 ∈ D) (h63 : D.length < 63) (hn : ks.length = n) (hV : ∀ i v, V0 i v → ∃ p, ks[i]? = some p ∧ v = .ref p.1) (h0 : Heap) (hk : ∀ p ∈ ks, IsT P w h0 p.2 p.1) (hS0 : h0.get? S = none) :
    ∀ (j i : Nat) (A : Around) (R : Result → Shared → Prop) (s : Shared) (W : WalksS P w A.in1 I fp wr G n V0 St), (∀ b ∈ wr, h0.get? b = none) → A.in1.units < cLine → S ∉ fp → n - i = j → i ≤ n → St i s → (∀ b o, h0.get? b = some o → s.heap.get? b = some o) → HasT P w S ks i s.heap →
      (∀ s', Moved (S :: wr) G s s' → HasT P w S ks n s'.heap → (∀ b o, h0.get? b = some o → s'.heap.get? b = some o) → R (.ok (.ret .none)) s') →
      (codeAny (model P w) A (.builtin "set.update.loop" ⟨[.ref S, .ref I], []⟩) R s) := by
  intro j
  induction j with
  | zero =>
    intro i A R s W hw hu hS hj hi st kp so hR
    obtain rfl : i = n := by omega
    have nw : S ∉ wr := fun h => hS (W.sub _ h)
    refine codeAny_builtin F.entry_set_update_loop ?_; skip
    rw [Around.under_plainId F.plain_set_update_loop _]; skip
    show wpAny _ A.in1 (pyNext (.ref I) >>= _) _ _ s; skip
    refine wpAny_bind (W.done s _ _ st fun s' mv => wpAny_pure ?_)
    have kp' : ∀ b o, h0.get? b = some o → s'.heap.get? b = some o := fun b o e => mv.heap b o (fun hb => by rw [hw b hb] at e; cases e) (kp b o e)
    obtain ⟨L, es, ep, t, T, g⟩ := so
    exact hR s' (mv.mono fun b hb => List.mem_cons_of_mem _ hb) ⟨L, es, ep, t, T.keep (fun o e => mv.heap S o nw e) fun p hp => isT_keep (hk p (List.mem_of_mem_take (g.sub p hp))) kp', g⟩ kp'
  | succ j ih =>
    intro i A R s W hw hu hS hj hi st kp so hR
    have nw : S ∉ wr := fun h => hS (W.sub _ h)
    have lt : i < n := by omega
    refine codeAny_builtin F.entry_set_update_loop ?_; skip
    rw [Around.under_plainId F.plain_set_update_loop _]; skip
    show wpAny _ A.in1 (pyNext (.ref I) >>= _) _ _ s; skip
    refine wpAny_bind (W.item i s _ _ lt st fun v s' pv st' mv => ?_)
    obtain ⟨k, ek, rfl⟩ := hV i v pv
    have kp' : ∀ b o, h0.get? b = some o → s'.heap.get? b = some o := fun b o e => mv.heap b o (fun hb => by rw [hw b hb] at e; cases e) (kp b o e)
    obtain ⟨L, es, ep, t, T0, g⟩ := so
    have T := T0.keep (fun o e => mv.heap S o nw e) fun p hp => isT_keep (hk p (List.mem_of_mem_take (g.sub p hp))) kp'
    have hx := isT_keep (hk k (List.mem_of_getElem? ek)) kp'
    have fw := HasT.few (pool := ks) T g hD
    show wpAny _ A.in1 (holding [Value.ref k.1] (setAdd S (.ref k.1)) >>= _) _ _ s'
    refine wpAny_bind (wpAny_holding ?_); skip
    unfold setAdd
    refine wpAny_holding (wpAny_bind (wpAny_pyHash_tuple hu hx ?_))
    refine add_at (s := { s' with toks := s'.toks + (k.2.length + 1) }) T hx hu (by omega) fun b h' L' es' ep' t' sb T2 c1 c2 => ?_
    have g' : Got ks (i + 1) L' := by
      by_cases c : k.2 ∈ L.map (·.2)
      · rw [c1 c]
        exact g.same ek c
      · exact g.more ek (c2 c)
    have kp2 : ∀ b o, h0.get? b = some o → h'.get? b = some o := fun b o e => by
      rw [sb.2 b (fun z => by rw [z, hS0] at e; cases e)]
      exact kp' b o e
    refine wpAny_pure ⟨plainId_quiet F.plain_set_update_loop _, ih (i + 1) A R _ W hw hu hS (by omega) lt (W.frame _ s' _ _ st' (Nat.le_add_right _ _) fun b hb o e => ?_) kp2 ⟨L', es', ep', t', T2, g'⟩ fun s2 mv2 so4 kp4 => ?_⟩
    · rw [sb.2 b (fun q => hS (by rw [← q]; exact hb))]
      exact e
    · refine hR s2 (Moved.trans W.gtrans ((mv.mono fun b hb => List.mem_cons_of_mem _ hb).then_heap (Nat.le_add_right _ _) fun b o hb e => ?_) mv2) so4 kp4
      rw [sb.2 b (fun q => hb (by rw [q]; exact List.mem_cons_self))]
      exact e
end
section
variable {P : Program} {w : World} {s : Shared} {E : Value → Shared → Prop} {A : Around}
theorem set_many {l : Addr} {items : Array Value} {ks : List AT} {Q : Value → Shared → Prop} (D : List (List Int)) (hD : ∀ p ∈ ks, p.2 ∈ D) (h63 : D.length < 63) (hh : A.handled = none) (hl : s.heap.IsList l items) (hit : items.toList = ks.map fun p => Value.ref p.1) (hk : ∀ p ∈ ks, IsT P w s.heap p.2 p.1) (hu : A.units + 3 < cLine)
    (q : ∀ (g : Heap) (tk : Nat), HasT P w s.heap.objs.size ks ks.length g → (∀ b o, s.heap.get? b = some o → g.get? b = some o) → Q (.ref s.heap.objs.size) { s with heap := g, toks := tk }) :
    (wpAny (model P w) A (call (.type "set") [.ref l]) Q E s) := by
  have hsz : ks.length = items.size := by
    have e := congrArg List.length hit
    rw [List.length_map, Array.length_toList] at e
    exact e.symm
  obtain ⟨c, tl, hmro⟩ := PySem.F.called_set.mro; skip
  have a1 := PySem.F.called_set.made
  have a2 := PySem.F.called_set.sub
  have a3 := PySem.F.called_set.notType
  have a4 := PySem.F.called_set.canCreate
  have a5 := PySem.F.typeCall_set_1 (.ref l)
  refine wpAny_call (codeAny_of_tree ?_); skip
  show wpAny _ _ (callAny (.type "set") _) _ _ _; skip
  refine wpAny_pure ⟨Code.quiet_builtin _ (by decide +kernel), codeAny_builtin PySem.F.entry_type_call ?_⟩; skip
  rw [Around.under_plain (weight_type_call_type "set" [.ref l] []) rfl]; skip
  repeat (any_goals (first | assumption | wp_step)); skip
  refine codeAny_mono (code_set_led1 (.ref l) (E := E) (Q₁ := fun ob t => ob = .ref s.heap.objs.size ∧ t = { s with heap := s.heap.push { cls := .type "set", dict := none, data := .set #[] 0 (.fresh 0 0 (!w.params.followText "set-order")) } }) ⟨rfl, rfl⟩) fun r t hr => ?_
  match r, hr with
  | .error e, hr => exact hr
  | .ok (.ret ob), ⟨e1, e2⟩ =>
    subst e1
    subst e2
    generalize hld : (!w.params.followText "set-order") = led
    have new : (s.heap.push { cls := .type "set", dict := none, data := .set #[] 0 (.fresh 0 0 led) }).get? s.heap.objs.size = some { cls := .type "set", dict := none, data := .set #[] 0 (.fresh 0 0 led) } := Heap.get?_push_size _ rfl
    have ty : Shared.TypeIs { s with heap := s.heap.push { cls := .type "set", dict := none, data := .set #[] 0 (.fresh 0 0 led) } } (.ref s.heap.objs.size) "set" := ⟨_, new, rfl⟩
    have b1 := PySem.F.called_set.init.lookup
    have b2 := PySem.F.called_set.init.bind (.ref s.heap.objs.size)
    repeat (any_goals (first | assumption | wp_step)); skip
    refine codeAny_mono (codeAny_call_builtin (R := wants (fun r t => r = .none ∧ ∃ g tk, t = { s with heap := g, toks := tk } ∧ HasT P w s.heap.objs.size ks ks.length g ∧
      (∀ b o, s.heap.get? b = some o → g.get? b = some o)) E) PySem.F.called_set.init.plain PySem.F.entry_set_init (check_set_init_1 ty ?_)) fun r2 t2 hr2 => ?_
    · obtain ⟨o, ho, hc, k, hd⟩ := hl
      obtain ⟨oc, od, odt, osl⟩ := o; skip
      simp only at hc hd
      subst hc
      subst hd
      have ho' : (s.heap.push { cls := .type "set", dict := none, data := .set #[] 0 (.fresh 0 0 led) }).get? l = some { cls := .type "list", dict := od, data := .seq items k, slots := osl } := Heap.get?_push_of_some _ ho
      have c1 := PySem.F.sub_list_set
      have c2 := PySem.F.sub_list_frozenset
      have c3 : (Value.type "list" == Value.type "dict") = false := by decide
      have il : (s.heap.push { cls := .type "set", dict := none, data := .set #[] 0 (.fresh 0 0 led) }).IsList l items := ⟨_, ho', rfl, k, rfl⟩
      unfold Builtin.«set.__init__» noKeywords Builtin.Frozenset.updateFrom; skip
      generalize hPI : pyIter = PI
      wp_walk
      subst hPI
      refine wpAny_pyIter_list il (wpAny_bind (wpAny_runValue ?_))
      have lt : l < s.heap.objs.size := Heap.lt_size ho
      have nI : l ≠ (s.heap.push { cls := .type "set", dict := none, data := .set #[] 0 (.fresh 0 0 led) }).objs.size := by
        rw [Heap.size_push]
        exact Nat.ne_of_lt (Nat.lt_succ_of_lt lt)
      have nS : s.heap.objs.size ∉ [(s.heap.push { cls := .type "set", dict := none, data := .set #[] 0 (.fresh 0 0 led) }).objs.size, l] := by
        rw [Heap.size_push, List.mem_cons, List.mem_singleton]
        rintro (z | z)
        · exact absurd z (Nat.ne_of_lt (Nat.lt_succ_self _))
        · exact absurd z (Nat.ne_of_gt lt)
      have none_of : ∀ b, s.heap.objs.size ≤ b → s.heap.get? b = none := fun b hb => Heap.get?_none_of_le hb
      refine fill_tups (n := items.size) s.heap.objs.size ks D hD h63 hsz (fun i v hv => ?_) s.heap hk (none_of _ (Nat.le_refl _)) (items.size - 0) 0 _ _ _ ((Walks.list (by simpa using hh) _ l nI items).toS) (fun b hb => none_of b (by
          rw [List.mem_singleton.mp hb, Heap.size_push]; skip
          exact Nat.le_succ _)) hu nS (by omega) (Nat.zero_le _) ⟨⟨_, Heap.get?_push_size _ rfl, rfl, rfl⟩, il.push _⟩ (fun b o e => Heap.get?_push_of_some _ (Heap.get?_push_of_some _ e)) ?_ fun t mv so kp => ?_
      · have hv' : items.toList[i]? = some v := by
          rw [Array.getElem?_toList]
          exact hv
        rw [hit, List.getElem?_map] at hv'
        cases e : ks[i]? with
        | none =>
          rw [e] at hv'
          cases hv'
        | some p =>
          rw [e] at hv'
          exact ⟨p, rfl, (Option.some.inj hv').symm⟩
      · have g0 : ((s.heap.push { cls := .type "set", dict := none, data := .set #[] 0 (.fresh 0 0 led) }).push { cls := .type "list_iterator", data := .fields #[.ref l, .int 0 0] }).get? s.heap.objs.size = some { cls := .type "set", dict := none, data := .set #[] 0 (.fresh 0 0 led) } := Heap.get?_push_of_some _ new
        rw [← hld] at g0
        have := setTR_fresh (P := P) g0
        rw [hld] at this
        exact ⟨[], #[], 0, _, this, Got.zero ks⟩
      · obtain ⟨g, gs, d, tk, os⟩ := t
        obtain rfl : gs = s.gens := mv.gens
        obtain rfl : d = s.drawn := mv.drawn
        obtain rfl : os = s.os := mv.os
        show wpAny _ _ _ _ _ _
        refine wpAny_pure ?_
        show wpAny _ _ (ret Value.none) _ _ _; skip
        rw [← hsz] at so
        exact wpAny_pure ⟨rfl, g, tk, rfl, so, kp⟩
    · match r2, hr2 with
      | .error e, hr2 => exact hr2
      | .ok (.ret v), ⟨e1, g, tk, e2, so, kp⟩ =>
        subst e1
        subst e2
        repeat (any_goals (first | assumption | wp_step)); skip
        exact q _ _ so kp
end
end Pl

namespace Pl
open PySem PySem.Spec PyProof.Rows L2 PySem.W PySem.SeqAt
/-! ### the sort of tuples, of which some may be empty -/
section
variable {prog : Program} {w : World} {s : Shared} {E : Value → Shared → Prop} {A : Around}
theorem call_tup_lt {Q : Value → Shared → Prop} {l b : Addr} {items items2 : Array Value} {e r : Nat → Bool} (hl : s.heap.IsTuple l items) (hb : s.heap.IsTuple b items2)
    (he : ∀ j (h1 : j < items.size) (h2 : j < items2.size), EqAt A.in1 s items[j] items2[j] (e j)) (hr : ∀ j (h1 : j < items.size) (h2 : j < items2.size), e j = false → RcLt A.in1 s items[j] items2[j] (r j))
    (q : Q (.bool (firstLt e r (decide (items.size < items2.size)) (List.range (min items.size items2.size)))) s) : (wpAny (model prog w) A (call (.builtin "tuple.__lt__") [.ref l, .ref b]) Q E s) := by
  obtain ⟨⟨c1, d1, x1, y1⟩, o1, hc1, n1, hd1⟩ := id hl
  obtain ⟨⟨c2, d2, x2, y2⟩, o2, hc2, n2, hd2⟩ := id hb
  simp only at hc1 hd1 hc2 hd2
  subst hc1 hd1 hc2 hd2
  exact call_meets F.slot_tuple_lt ⟨_, o1, rfl⟩ F.entry_tuple_lt (F.args_tuple_lt_2 _ _) (tuple_ltAt l b items items2 n1 n2 d1 d2 y1 y2 e r) ⟨o1, o2, he, hr, q⟩
theorem one_tup {xs ys : List PyData} {a b : Value} {as bs : List Addr} {Q : Bool → Shared → Prop} (ra : Reads s.heap a (.tuple xs) as) (rb : Reads s.heap b (.tuple ys) bs) (hal : alikeAll xs ys = true)
    (hu : A.units + min (PyData.tuple xs).depth (PyData.tuple ys).depth < cLine) (hq : Q (dataLt (.tuple xs) (.tuple ys)) s) : wpAny (model prog w) A (oneLt' true a b) Q E s := by
  cases ra with
  | @tuple l o vs n _ as₁ h1 h2 h3 h4 =>
    cases rb with
    | @tuple l' o' vs' n' _ bs₁ k1 k2 k3 k4 =>
      have e1 : vs.size = xs.length := by simpa using ReadsAll.length _ _ _ h4
      have e2 : vs'.size = ys.length := by simpa using ReadsAll.length _ _ _ k4
      rw [dataLt_tuple, ← firstLt_toks xs ys hal, ← e1, ← e2] at hq
      rw [oneLt'_eq]
      simp only [if_true]
      refine wpAny_bind (wpAny_cRoomFor (room_here hu) ?_); skip
      refine wpAny_bind (wpAny_callSpecialIfBound?_slot (T := "tuple") ⟨_, h1, h2⟩ F.slot_tuple_lt (call_tup_lt (e := pairEq xs ys) (r := fun j => dataLt (xs.getD j .none) (ys.getD j .none)) ⟨_, h1, h2, _, h3⟩ ⟨_, k1, k2, _, k3⟩ (fun j j1 j2 => ?_) (fun j j1 j2 hj => ?_) ?_))
      · have z := eqAt_alikeAll xs ys A.in1 s vs.toList vs'.toList _ _ h4 k4 hal (room_in hu) j (by simpa using j1) (by simpa using j2)
        simpa using z
      · have z := rcLt_alikeAll xs ys A.in1 s vs.toList vs'.toList _ _ h4 k4 hal (room_in hu) j (by simpa using j1) (by simpa using j2) hj
        simpa using z
      · exact wpAny_truthy_bool hq
/-- an item at least -/
def neT : PyData → Bool
  | .tuple (_ :: _) => true
  | _ => false
theorem firsts_of {M : Model} : ∀ {vs : List Value} {ds : List PyData}, EachIs (fun v d => ∃ as, Reads s.heap v d as) vs ds → (∀ d, d ∈ ds → ∃ xs, d = .tuple xs) →
    ∃ fs : List (Option Value), (∀ (E : Value → Shared → Prop) (Q : List (Option Value) → Shared → Prop), Q fs s → wpAny M A (vs.mapM firstOfTuple') Q E s) ∧ fs.map (·.isSome) = ds.map neT
  | _, _, .nil, _ => ⟨[], fun E Q h => by rw [List.mapM_nil]; exact wpAny_pure h, rfl⟩
  | _, _, .cons (b := d) ⟨as, r⟩ t, ht => by
    obtain ⟨fs, h1, h2⟩ := firsts_of (M := M) t fun d hd => ht d (List.mem_cons_of_mem _ hd)
    obtain ⟨xs, rfl⟩ := ht d (List.mem_cons_self ..)
    cases r with
    | @tuple a o us n _ _ ho hc hd hr =>
      refine ⟨us[0]? :: fs, fun E Q h => ?_, ?_⟩
      · rw [List.mapM_cons]
        refine wpAny_bind ?_
        rw [kas_first_eq]
        refine wpAny_bind (Looks.here (show Looks M s.heap (typeOf (.ref a)) o.cls from (Looks.ld ho).andThen .now) ?_); skip
        rw [hc, if_neg (by first | decide | simp)]; skip
        refine wpAny_bind (listItems_at ho hd (wpAny_pure ?_)); skip
        exact wpAny_bind (h1 E (fun bs s' => wpAny M A (pure (us[0]? :: bs)) Q E s') (wpAny_pure h))
      · rw [List.map_cons, List.map_cons, h2]
        have e : (us[0]?).isSome = neT (.tuple xs) := by
          rw [← Array.getElem?_toList]
          cases q : us.toList with
          | nil =>
            rw [q] at hr
            cases hr
            rfl
          | cons f fr =>
            rw [q] at hr
            cases hr
            rfl
        rw [e]
theorem kind_of {M : Model} {vs : List Value} {ds : List PyData} (e : EachIs (fun v d => ∃ as, Reads s.heap v d as) vs ds) (ht : ∀ d, d ∈ ds → ∃ xs, d = .tuple xs) (hm : ¬ ∀ d, d ∈ ds → neT d = true) :
    ∃ kd, (kd = general' ∨ kd = oneType') ∧ ∀ (E : Value → Shared → Prop) (Q : SortKind → Shared → Prop), Q kd s → wpAny M A (keyKind' vs.toArray) Q E s := by
  obtain ⟨fs, h1, h2⟩ := firsts_of (A := A) (M := M) e ht
  have nall : (fs.toArray.all fun x => x.isSome) ≠ true := fun z => hm fun d hd => by
    have z2 : ∀ x ∈ fs, x.isSome = true := by simpa using z
    obtain ⟨i, hi⟩ := List.getElem?_of_mem hd
    have h3 : (fs.map (·.isSome))[i]? = some (neT d) := by rw [h2, List.getElem?_map, hi]; rfl
    rw [List.getElem?_map] at h3
    cases q : fs[i]? with
    | none => rw [q] at h3; cases h3
    | some x =>
      rw [q] at h3
      rw [← Option.some.inj h3]
      exact z2 x (List.mem_of_getElem? q)
  by_cases hf : (fs.toArray[0]?.bind id).isSome = true
  · refine ⟨general', .inl rfl, fun E Q q => ?_⟩
    rw [keyKind'_eq, List.mapM_toArray, map_eq_pure_bind]; skip
    refine wpAny_bind (wpAny_bind (h1 E _ (wpAny_pure ?_)))
    rw [if_neg nall, if_pos hf]
    exact wpAny_pure q
  · refine ⟨oneType', .inr rfl, fun E Q q => ?_⟩
    rw [keyKind'_eq, List.mapM_toArray, map_eq_pure_bind]; skip
    refine wpAny_bind (wpAny_bind (h1 E _ (wpAny_pure ?_)))
    rw [if_neg nall, if_neg hf]
    rw [oneTypeOnly'_eq, List.mapM_toArray, map_eq_pure_bind]; skip
    refine wpAny_bind (wpAny_bind (wpAny_bind (kas_mapM (r := Value.type "tuple") _ (fun v hv Q' hq => ?_) (wpAny_pure ?_))))
    · obtain ⟨d, hd, as, r⟩ := e.left v hv; skip
      obtain ⟨xs, rfl⟩ := ht d hd
      exact (looks_reads (M := M) r).here hq
    · have hne : vs ≠ [] := fun z => by
        subst z
        cases e
        exact hm fun d hd => by cases hd
      obtain ⟨v, vr, rfl⟩ := List.exists_cons_of_ne_nil hne
      have hall : ((List.map (fun _ => Value.type "tuple") (v :: vr)).toArray.all fun x => x == Value.type "tuple") = true := by
        simp only [List.all_toArray, List.all_map, List.all_eq_true]; skip
        intro _ _
        exact beq_self_eq_true _
      have h0 : (List.map (fun _ => Value.type "tuple") (v :: vr)).toArray[0]? = some (.type "tuple") := by simp
      rw [h0]
      simp only [hall, if_true]
      exact wpAny_pure (wpAny_pure q)
theorem sorts_tups {vs : List Value} {ds : List PyData} (e : EachIs (fun v d => ∃ as, Reads s.heap v d as) vs ds) (hal : AllAlike ds) (ht : ∀ d, d ∈ ds → ∃ xs, d = .tuple xs) (hu : ∀ d, d ∈ ds → A.units + d.depth < cLine) : SortsAt prog w A s (dataKind s.heap ds) vs := by
  by_cases hm : ∀ d, d ∈ ds → neT d = true
  · refine SortsAt.data e hal (.inl fun d hd => ?_) hu
    obtain ⟨xs, rfl⟩ := ht d hd
    cases xs with
    | nil => cases hm _ hd
    | cons x r => exact ⟨x, r, rfl⟩
  · obtain ⟨kd, hk, hkk⟩ := kind_of (A := A) (M := model prog w) e ht hm
    refine ⟨fun v hv => ?_, kd, ?_, fun _ E Q q => hkk E Q q⟩
    · obtain ⟨d, hd, as, r⟩ := e.left v hv; skip
      exact ⟨_, dataKind_some hal hd r⟩; skip
    · intro E x y a b Q ha hb hq
      obtain ⟨d, as, hd, ra, rfl⟩ := dataKind_inv ha; skip
      obtain ⟨d', as', hd', rb, rfl⟩ := dataKind_inv hb; skip
      have hroom : A.units + min d.depth d'.depth < cLine := Nat.lt_of_le_of_lt (Nat.add_le_add_left (Nat.min_le_left _ _) _) (hu d hd)
      have hdd := hal d hd d' hd'
      obtain ⟨xs, rfl⟩ := ht d hd
      obtain ⟨ys, rfl⟩ := ht d' hd'
      rcases hk with rfl | rfl
      · exact oneLt_alike (f := false) (fun z => by cases z) ra rb hdd (by simp) hroom hq
      · rw [keyLt'_oneType]
        exact one_tup ra rb (by simpa [alike] using hdd) hroom hq
end
/-! ### tuples of ints -/
def encT (p : AT) : PyData := .tuple (p.2.map .int)
def keyT (p : AT) : PyData := .tuple [.int p.2.length, encT p]
theorem dep_ints : ∀ ns : List Int, PyData.depthAll (ns.map .int) = 0
  | [] => by simp [PyData.depthAll]
  | n :: ns => by simp [PyData.depthAll, PyData.depth, dep_ints ns]
theorem dep_T (p : AT) : (encT p).depth ≤ 1 := by
  unfold encT
  rw [PyData.depth, dep_ints]
  omega
theorem dep_K (p : AT) : (keyT p).depth ≤ 2 := by
  have := dep_T p
  simp only [keyT, PyData.depth, PyData.depthAll]
  omega
theorem alike_T (bs : List AT) : AllAlike (bs.map encT) := AllAlike.of fun a b => by simp [encT, alike, alike_ints]
theorem alike_K (bs : List AT) : AllAlike (bs.map keyT) := AllAlike.of fun a b => by simp [keyT, encT, alike, alikeAll, alike_ints]
section
variable {P : Program} {w : World}
theorem reads_items {h : Heap} : ∀ {k : List Int} {vs : List Value}, ItemsAre (intKind P w) k vs → ReadsAll h vs (k.map .int) []
  | _, _, .nil => .nil
  | _, _, .cons h1 t => by
    obtain ⟨tk, rfl⟩ := Value.isInt_shape h1
    exact .cons (as := []) (bs := []) (.int _ tk) (reads_items t)
theorem reads_T {h : Heap} {k : List Int} {a : Addr} (x : IsT P w h k a) : Reads h (.ref a) (.tuple (k.map .int)) [] := by
  obtain ⟨o, items, n, ho, hc, hd, hi⟩ := x; skip
  exact .tuple ho hc hd (reads_items hi)
end
end Pl

namespace Pl
open PySem PySem.Spec PyProof.Rows L2 PySem.W PySem.SeqAt
theorem each_refs {S : Value → AT → Prop} (h : ∀ p : AT, S (.ref p.1) p) : ∀ L : List AT, EachIs S (L.map fun p => Value.ref p.1) L
  | [] => .nil
  | p :: L => .cons (h p) (each_refs h L)
theorem each_refs' {S : Value → AT → Prop} : ∀ L : List AT, (∀ p ∈ L, S (.ref p.1) p) → EachIs S (L.map fun p => Value.ref p.1) L
  | [], _ => .nil
  | p :: L, h => .cons (h p List.mem_cons_self) (each_refs' L fun q hq => h q (List.mem_cons_of_mem _ hq))
theorem refs_each : ∀ {vs : List Value} {L : List AT}, EachIs (fun v (p : AT) => v = Value.ref p.1) vs L → vs = L.map fun p => Value.ref p.1
  | _, _, .nil => rfl
  | _, _, .cons h t => by rw [h, refs_each t, List.map_cons]
section
variable {prog : Program} {w : World} {s : Shared} {E : Value → Shared → Prop} {A : Around}
/-- sorted(a list of tuples of ints) -/
theorem sorted_list {l : Addr} {L : List AT} {Q : Value → Shared → Prop} (hl : s.heap.IsList l (L.map fun p => Value.ref p.1).toArray) (hk : ∀ p ∈ L, IsT prog w s.heap p.2 p.1) (hL : L.length ≤ sizeLine) (hu : A.units + 4 < cLine)
    (q : ∀ out, out = (L.mergeSort (dataLe false encT)).map (fun p => Value.ref p.1) → Q (.ref (s.heap.objs.size + 1)) { s with heap := sortedAll s.heap (L.map fun p => Value.ref p.1) (List.toArray out) }) : (wpAny (model prog w) A (call (.builtin "sorted") [.ref l]) Q E s) := by
  have er : EachIs (fun v b => ∃ as, Reads (sortingHeap (copyHeap s.heap (L.map fun p => Value.ref p.1)) (s.heap.objs.size + 1) (L.map fun p => Value.ref p.1)) v (encT b) as) (L.map fun p => Value.ref p.1) L :=
    each_refs' L fun p hp => ⟨[], PyProof.Rows.Reads.keeps (fun _ _ => sorting_copy_old) (reads_T (hk p hp))⟩
  have bd : ∀ d, d ∈ L.map encT → A.in1.in1.units + d.depth < cLine := fun d hd => by
    obtain ⟨p, _, rfl⟩ := List.mem_map.mp hd
    have := dep_T p
    show A.units + 2 + _ < cLine
    omega
  refine sorted_vals hl (sorts_tups (s := { s with heap := sortingHeap (copyHeap s.heap (L.map fun p => Value.ref p.1)) (s.heap.objs.size + 1) (L.map fun p => Value.ref p.1) }) (each_map (R := fun v d => ∃ as, Reads (sortingHeap (copyHeap s.heap (L.map fun p => Value.ref p.1)) (s.heap.objs.size + 1) (L.map fun p => Value.ref p.1)) v d as) encT er) (alike_T L) (fun d hd => ?_) bd) (by rw [List.length_map]; exact hL) (q _ (refs_each (sortVals_data false (R := fun v (p : AT) => v = Value.ref p.1) (each_refs (fun _ => rfl) L) er (alike_T L))))
  obtain ⟨p, _, rfl⟩ := List.mem_map.mp hd
  exact ⟨_, rfl⟩
/-- list.sort of such -/
theorem lsort_list {a : Addr} {n : Nat} {L : List AT} {Q : Value → Shared → Prop} (ho : s.heap.get? a = some (seqObj "list" (L.map fun p => Value.ref p.1).toArray n)) (hk : ∀ p ∈ L, p.1 ≠ a ∧ IsT prog w s.heap p.2 p.1) (hL : L.length ≤ sizeLine) (hu : A.units + 4 < cLine)
    (q : ∀ out, out = (L.mergeSort (dataLe false encT)).map (fun p => Value.ref p.1) → Q .none { s with heap := sortedHeap s.heap a (L.map fun p => Value.ref p.1) (List.toArray out) }) : (wpAny (model prog w) A (call (.builtin "list.sort") [.ref a]) Q E s) := by
  have er : EachIs (fun v b => ∃ as, Reads (sortingHeap s.heap a (L.map fun p => Value.ref p.1)) v (encT b) as) (L.map fun p => Value.ref p.1) L :=
    each_refs' L fun p hp => ⟨[], by
      obtain ⟨o, items, k, h1, h2⟩ := (hk p hp).2
      exact reads_T (P := prog) (w := w) ⟨o, items, k, sortingHeap_old (hk p hp).1 h1, h2⟩⟩
  have bd : ∀ d, d ∈ L.map encT → A.in1.units + d.depth < cLine := fun d hd => by
    obtain ⟨p, _, rfl⟩ := List.mem_map.mp hd
    have := dep_T p
    show A.units + 1 + _ < cLine
    omega
  refine wpAny_call_entry slot_list_sort ⟨_, ho, rfl⟩ entry_list_sort (list_sort_vals ho (sorts_tups (s := { s with heap := sortingHeap s.heap a (L.map fun p => Value.ref p.1) }) (each_map (R := fun v d => ∃ as, Reads (sortingHeap s.heap a (L.map fun p => Value.ref p.1)) v d as) encT er) (alike_T L) (fun d hd => ?_) bd) (by rw [List.length_map]; exact hL) ⟨.none, rfl, ?_⟩) (args_list_sort _)
  · obtain ⟨p, _, rfl⟩ := List.mem_map.mp hd
    exact ⟨_, rfl⟩
  · exact q _ (refs_each (sortVals_data false (R := fun v (p : AT) => v = Value.ref p.1) (each_refs (fun _ => rfl) L) er (alike_T L)))
/-- sorted(a set of these) -/
theorem sorted_set {a : Addr} {L : List AT} {es : Array (Int × Value)} {ep : Nat} {t : SetTable} {Q : Value → Shared → Prop} (R : SetTR prog w s.heap a L es ep t) (hh : A.handled = none) (hu : A.units + 5 < cLine)
    (q : ∀ s' p (out : Array Value) (c : Nat) (L' : List AT), (∀ b o, s.heap.get? b = some o → s'.heap.get? b = some o) → s'.gens = s.gens → s'.os = s.os → s.heap.objs.size ≤ p → s'.heap.get? p = some (seqObj "list" out c) → out.toList = L'.map (fun q => Value.ref q.1) → L'.Perm L → Q (.ref p) s') :
    (wpAny (model prog w) A (call (.builtin "sorted") [.ref a]) Q E s) := by
  obtain ⟨o, ho, hex, hd⟩ := R.ob; skip
  have hfew := R.few
  refine Calls.call_function_entry kind_sorted plain_sorted entry_sorted (args_sorted1 _) ?_; skip
  unfold Builtin.«sorted»
  refine wpAny_bind (m := checkCount "sorted" 1 1 _) (wpAny_pure ?_); skip
  refine wpAny_bind (collect_set (A := A.in1) hh ⟨o, ho, hex.1, hd⟩ R.fits (by have := R.size; unfold scanBound; omega) R.tab.ris R.led fun s1 vs k1 hz g1 o1 pm => ?_)
  have hes : es.toList.map (·.2) = L.map fun q => Value.ref q.1 := by
    rw [R.rows]
    unfold L2.rowsOf
    rw [List.map_map]
    rfl
  rw [hes] at pm
  obtain ⟨L1, e1, p1⟩ : ∃ L1 : List AT, vs = L1.map (fun q => Value.ref q.1) ∧ L1.Perm L := by
    have key : ∀ (vs : List Value) (L : List AT), vs.Perm (L.map fun q => Value.ref q.1) → ∃ L1 : List AT, vs = L1.map (fun q => Value.ref q.1) ∧ L1.Perm L := fun vs => by
      induction vs with
      | nil =>
        intro L h
        have z := h.length_eq
        rw [List.length_map, List.length_nil] at z
        obtain rfl := List.eq_nil_of_length_eq_zero z.symm
        exact ⟨[], rfl, .refl _⟩
      | cons v vs ih =>
        intro L h
        obtain ⟨p, hp, rfl⟩ := List.mem_map.mp (h.mem_iff.mp List.mem_cons_self)
        obtain ⟨l1, l2, rfl⟩ := List.append_of_mem hp
        have h2 : ((l1 ++ p :: l2).map fun q : AT => Value.ref q.1).Perm (Value.ref p.1 :: (l1 ++ l2).map fun q => Value.ref q.1) := by
          rw [List.map_append, List.map_cons, List.map_append]
          exact List.perm_middle
        obtain ⟨L1, e, pm⟩ := ih (l1 ++ l2) ((h.trans h2).cons_inv)
        exact ⟨p :: L1, by rw [List.map_cons, e], (pm.cons p).trans List.perm_middle.symm⟩
    exact key vs L pm
  subst e1
  have hL1 : L1.length < 64 := by rw [p1.length_eq]; exact hfew
  refine wpAny_bind (wpAny_newList ?_ (by rw [sizeLine_eq, List.length_map]; omega))
  have hoL : (s1.heap.push (seqObj "list" (L1.map fun q => Value.ref q.1).toArray 0)).get? s1.heap.objs.size = some (seqObj "list" (L1.map fun q => Value.ref q.1).toArray 0) := Heap.get?_push_size _ rfl
  refine wpAny_bind (wpAny_holding (lsort_list (s := { s1 with heap := s1.heap.push (seqObj "list" (L1.map fun q => Value.ref q.1).toArray 0) }) hoL (fun p hp => ?_) (by rw [sizeLine_eq]; omega) (by show A.units + 1 + 4 < cLine; omega) fun out eo => ?_))
  · have ht := isT_keep (R.tup p (p1.mem_iff.mp hp)) k1
    have hlt : p.1 < s1.heap.objs.size := by
      obtain ⟨o, _, _, h, _⟩ := ht
      exact Heap.lt_size h
    exact ⟨Nat.ne_of_lt hlt, isT_keep ht fun b u e => Heap.get?_push_of_some _ e⟩
  · obtain ⟨c, hc⟩ := sortedHeap_at (vs := L1.map fun q => Value.ref q.1) (out := out.toArray) hoL
    refine wpAny_pure ⟨_, rfl, q _ s1.heap.objs.size out.toArray c (L1.mergeSort (dataLe false encT)) (fun b u e => ?_) g1 o1 hz hc (by simpa using eo) ((List.mergeSort_perm _ _).trans p1)⟩
    have z := k1 b u e
    have hlt := Heap.lt_size z
    show (sortedHeap (s1.heap.push (seqObj "list" (L1.map fun q => Value.ref q.1).toArray 0)) s1.heap.objs.size (L1.map fun q => Value.ref q.1) out.toArray).get? b = some u
    rw [sortedHeap_old (Nat.ne_of_lt hlt) (by rw [size_push']; exact Nat.lt_succ_of_lt hlt)]; skip
    exact Heap.get?_push_of_some _ z
end
section
variable {X : Cx}
def refs (L : List AT) : List V := L.map fun p => V.ref p.1
/-- set(a list of tuples), of few unlike ones -/
def rSetM (K : PySem.W.Frag) (P : Program) (w : World) : List V → Hp → VK → Prop := fun xs H Q => ∃ (l : Addr) (ks : List AT) (D : List (List Int)), xs = [V.ref l] ∧ SqL K H l (refs ks) ∧ (∀ p ∈ ks, SqT K H p.1 (p.2.map V.int)) ∧ (∀ p ∈ ks, p.2 ∈ D) ∧ D.length < 63 ∧
  ∀ a L, H a = none → (∀ p ∈ L, p ∈ ks) → (∀ p ∈ ks, p.2 ∈ L.map (·.2)) → L.length < 64 → Q (.ref a) (upd H a (SetTO P w a L))
theorem cr_setM (hc : X.calm = true) (hu : X.A.units + 64 < cLine) : CallR X (.type "set") (rSetM X.K X.prog X.w) := by
  intro pins s σ H xs us Q I r h; skip
  obtain ⟨l, ks, D, rfl, hl, hk, hD, h63, q⟩ := h
  rw [Vals.ref1 r]
  obtain ⟨its, rv, pl, hz⟩ := I.list hl; skip
  refine set_many (P := X.prog) (w := X.w) (ks := ks) D hD h63 (I.ok.hd hc) pl.isList (by simpa using refs_of_vals rv) (fun p hp => I.isT (hk p hp)) (by omega) fun g tk so kp => ?_
  obtain ⟨L, es, ep, t, R, gt⟩ := so
  exact ⟨.ref s.heap.objs.size, upd H s.heap.objs.size (SetTO X.prog X.w s.heap.objs.size L), I.laid (t' := tk) kp (Nat.le_refl _) (setTO_new R.t0), rfl, q _ L (I.hok.fresh (Nat.le_refl _)) (fun p hp => List.mem_of_mem_take (gt.sub p hp)) (fun p hp => gt.all p (by rw [List.take_length]; exact hp)) R.few⟩
def rSortM (K : PySem.W.Frag) (P : Program) (w : World) : List V → Hp → VK → Prop := fun vs H Q => ∃ (a : Addr) (L : List AT), vs = [V.ref a] ∧ H a = some (SetTO P w a L) ∧ (∀ p ∈ L, SqT K H p.1 (p.2.map V.int)) ∧ ∀ (L' : List AT) (p : Addr), L'.Perm L → H p = none → Q (.ref p) (upd H p (.lst (refs L')))
theorem cr_sortM (hc : X.calm = true) (hu : X.A.units + 64 < cLine) : CallR X (.builtin "sorted") (rSortM X.K X.prog X.w) := by
  intro pins s σ H vs us Q I r h; skip
  obtain ⟨a, L, rfl, ha, hk, q⟩ := h
  have R0 : SetT0 X.prog X.w s.heap a L := (I.hok a _ ha).1; skip
  obtain ⟨es, ep, t, R⟩ := R0.full fun p hp => I.isT (hk p hp); skip
  rw [Vals.ref1 r]
  refine sorted_set R (I.ok.hd hc) (by omega) fun s' p out c L' k g o hp hg hout pm => ?_
  have hlen : (refs L').length ≤ sizeLine := by
    have := R.few
    rw [← pm.length_eq] at this
    unfold refs
    rw [List.length_map, sizeLine_eq]; skip
    omega
  have hn : H p = none := I.hok.fresh hp; skip
  have hv : Vals (refs L') out.toList := by
    rw [hout]
    exact vals_of_refs L'
  obtain ⟨h2, g2, d2, t2, o2⟩ := s'
  obtain rfl : g2 = s.gens := g
  obtain rfl : o2 = s.os := o
  have J : Inv X pins σ (upd H p (.lst (refs L'))) { s with heap := h2, drawn := d2, toks := t2 } := I.call (ch := []) (Un.laid k hp hn) (I.hok.laid k hp ⟨hlen, out.toList, c, hv, hg⟩) I.bare fun _ z => nomatch z
  exact ⟨.ref p, _, J, rfl, q L' p pm hn⟩
/-- sorted(a list of tuples) -/
def rSortL (K : PySem.W.Frag) : List V → Hp → VK → Prop := fun vs H Q => ∃ (a : Addr) (L : List AT), vs = [V.ref a] ∧ SqL K H a (refs L) ∧ (∀ p ∈ L, SqT K H p.1 (p.2.map V.int)) ∧ ∀ (L' : List AT) (p : Addr), L'.Perm L → H p = none → Q (.ref p) (upd H p (.lst (refs L')))
theorem cr_sortL (hu : X.A.units + 64 < cLine) : CallR X (.builtin "sorted") (rSortL X.K) := by
  intro pins s σ H vs us Q I r h; skip
  obtain ⟨a, L, rfl, ha, hk, q⟩ := h
  rw [Vals.ref1 r]
  obtain ⟨its, rv, pl, hz⟩ := I.list ha
  have e := refs_of_vals rv
  subst e
  have hz' : L.length ≤ sizeLine := by
    have z := hz
    unfold refs at z
    rw [List.length_map] at z
    exact z
  refine sorted_list (prog := X.prog) (w := X.w) (L := L) pl.isList (fun p hp => I.isT (hk p hp)) hz' (by omega) fun out eo => ?_
  obtain ⟨ep, he⟩ := PyProof.Rows.sortedAll_at s.heap (L.map fun p => Value.ref p.1) (List.toArray out)
  have pm := List.mergeSort_perm L (dataLe false encT)
  have hlen : (refs (L.mergeSort (dataLe false encT))).length ≤ sizeLine := by
    unfold refs
    rw [List.length_map, pm.length_eq]
    exact hz'
  exact ⟨.ref _, upd H (s.heap.objs.size + 1) (.lst (refs (L.mergeSort (dataLe false encT)))), I.laid (t' := s.toks) (fun _ _ => PyProof.Rows.sortedAll_old) (Nat.le_succ _) ⟨hlen, out, ep, by rw [eo]; exact vals_of_refs _, he⟩, rfl, q _ _ pm (I.hok.fresh (Nat.le_succ _))⟩
end
end Pl

namespace Pl
open PySem PySem.Spec PyProof.Rows L2 PySem.W PySem.SeqAt
/-- the lambda's text: x: (len(x), x) -/
structure LamK (x : Str) (params : Arguments) (body : Expr) (scope : Scope) : Prop where
  co : (scope.isCoroutine = false)
  gen : (scope.isGenerator = false)
  kind : scope.kind = .function
  names : scope.names = [(x, .local), ("len", .globalImplicit)]
  bind : ∀ (q : Str) (cl : List (Str × Addr)) (pm cv ctv v : Value), bindArgs (kla_fn "<lambda>" q params body scope cl pm cv ctv) ⟨[v], []⟩ = pure [(x, v)]
  body : ∃ p1 p2 p3 p4 p5 k, body = .Tuple [.Call (.Name "len" p1) [.Name x p2] [] p3, .Name x p4] k p5
  db : (x == ("__debug__" : Str)) = false
  ne : ((("len" : Str)) == x) = false
theorem lamK_turn {prog : Program} {w : World} {A : Around} {x q : Str} {params : Arguments} {body : Expr} {scope : Scope} (L : LamK x params body scope) (hd : A.depth < recursionLimit) {s : Shared} {f c' : Addr} {cl : List (Str × Addr)} {pm ctv : Value} {mg mb : Str → Option Value} {p : AT}
    (hlim : s.heap.NoLimit) (hg : s.heap.Ns mainGlobals mg) (hm : mg "len" = none) (hb : s.heap.Ns builtinsNs mb) (hv : mb "len" = some (.builtin "len")) (hf : s.heap.get? f = some (kla_obj "<lambda>" q params body scope cl pm c' ctv)) (hc : ∃ (oc : Obj) (vs : Array Value) (t : Tok), s.heap.get? c' = some oc ∧ oc.data = .fields vs ∧ vs[1]? = some (.str q t))
    (hr : IsT prog w s.heap p.2 p.1) (hz : p.2.length ≤ sizeLine) : wpAny (model prog w) A (call (.ref f) [.ref p.1]) (KeyPure (keyT p) s) (fun _ _ => False) s := by
  obtain ⟨oc, vs, tk, hoc, hdc, hvc⟩ := hc
  refine wpAny_call (kla_callFunE hd hf rfl L.co L.gen rfl ⟨c', oc, vs, tk, rfl, hoc, hdc, hvc⟩ ?_)
  rw [L.bind]
  refine wpAny_pure (wpAny_newFunctionEnv (fun y hy => ?_) (fun y hy => ?_) (fun h1 hns hsb => ?_) L.kind)
  · rw [L.names, List.mem_cons, List.mem_singleton] at hy
    rcases hy with rfl | rfl
    · exact fun z => by cases z
    · exact fun z => by cases z
  · rw [List.mem_singleton] at hy
    rw [hy]
    show scope.names.lookup x = some .local
    rw [L.names]
    simp [List.lookup]
  · have kp : ∀ b o, s.heap.get? b = some o → h1.get? b = some o := fun b o e => hsb.extBut b o (Nat.ne_of_lt (Heap.lt_size e)) (Heap.get?_push_of_some _ e)
    refine ⟨hlim.keeps kp, kla_codeExpr ?_⟩
    obtain ⟨p1, p2, p3, p4, p5, k, rfl⟩ := L.body
    have hx : scope.names.lookup x = some .local := by rw [L.names]; simp [List.lookup]
    have hlen : scope.names.lookup (("len" : Str)) = some .globalImplicit := by
      rw [L.names, List.lookup_cons, L.ne]
      simp [List.lookup]
    refine wpAny_Tuple_spliced ?_
    show wpAny _ _ (spliced [(false, eval (.Call (.Name "len" p1) [.Name x p2] [] p3) (newEnv scope s.heap.objs.size mainGlobals cl (q ++ ".<locals>.") (some f) (.ref c') none builtinsNs)), (false, eval (.Name x p4) (newEnv scope s.heap.objs.size mainGlobals cl (q ++ ".<locals>.") (some f) (.ref c') none builtinsNs))]) _ _ _
    have nm : ∀ (h : Heap) (tk : Nat) (pp : Pos) {M : Model} {A' : Around} {Q : Value → Shared → Prop} {E : Value → Shared → Prop}, (∀ b o, h1.get? b = some o → h.get? b = some o) → Q (.ref p.1) { s with heap := h, toks := tk } →
        wpAny M A' (eval (.Name x pp) (newEnv scope s.heap.objs.size mainGlobals cl (q ++ ".<locals>.") (some f) (.ref c') none builtinsNs)) Q E { s with heap := h, toks := tk } := fun h tk pp M A' Q E kk qq =>
      wpAny_Name (wpAny_loadName_local L.kind (by exact hx) (hns.keeps kk) (v := .ref p.1) (by simp [List.lookup]) qq) L.db
    refine Calls.spliced_cons (wpAny_Call_Name_kw (Calls.Name_function_global L.kind (by exact hlen) (Calls.loadGlobal_builtin (mg := mg) (mb := mb) (hg.keeps kp) hm (hb.keeps kp) hv ?_) (by decide)))
    refine PyProof.Rows.callWith_builtin1 ?_ (by rfl) (by rfl)
    refine Calls.spliced_cons (nm _ _ _ (fun _ _ e => e) (Calls.spliced_nil ?_))
    obtain ⟨o, items, n, ho, hcl, hda, hi⟩ := isT_keep hr kp
    have hil : items.size = p.2.length := by
      have e := SeqAt.ReadsAll.length _ _ _ (reads_items (h := h1) hi)
      simpa using e
    have hz2 := sizeLine_eq
    refine len_tuple (items := items) ⟨o, ho, hcl, n, hda⟩ (by rw [hil]; omega) ?_
    refine Calls.spliced_cons (nm _ _ _ (fun _ _ e => e) (Calls.spliced_nil ?_))
    refine ⟨by rw [sizeLine_eq]; simp, ?_⟩
    refine ⟨_, _, rfl, fun b o e => Heap.get?_push_of_some _ (kp b o e), ?_⟩
    refine .tuple (Heap.get?_push_size _ rfl) rfl rfl ?_
    refine .cons (as := []) (bs := []) ?_ (.cons (as := []) (bs := []) ?_ .nil)
    · rw [hil]
      exact .int _ _
    · exact PyProof.Rows.Reads.keeps (fun b o e => Heap.get?_push_of_some _ (kp b o e)) (reads_T hr)
/-- sorted(e, key=lambda x: (len(x), x)) -/
def leK : AT → AT → Bool := dataLe false keyT
def tSortLot (T : List (Addr × Str)) (te : TE) : TE := fun σ H Q => te σ H fun v H1 => LamX.Tabs T H1 ∧ ∃ (a : Addr) (L : List AT), v = .ref a ∧ H1 a = some (.lst (refs L)) ∧ (∀ p ∈ L, H1 p.1 = some (.tup (p.2.map V.int))) ∧ L.length ≤ 64 ∧ (∀ p ∈ L, p.2.length ≤ 64) ∧
  ∀ H2 p, LamX.ExtN H1 H2 → LamX.Tabs T H2 → H2 p = none → Q (.ref p) (upd H2 p (.lst (refs (L.mergeSort leK))))
section
variable {X : Cx} {s : Shared} {pins : List (Addr × Obj)} {H : Hp} {σ : L2.St}
theorem pe_sortLot {e : Expr} {te : TE} {x : Str} {params : Arguments} {body : Expr} {scope : Scope} {T : List (Addr × Str)} {c P : Addr} {p lpos kpos pos : Pos} (L : LamK x params body scope) (hg : Gl X "sorted") (hm : X.mg "sorted" = none) (hml : X.mg "len" = none) (he : PE X e te) (TB : LamX.TabB X.base X.mg c P)
    (hT : (P, X.env.qual ++ "<lambda>") ∈ T) (hT1 : ∀ p ∈ T, p.1 = P → p.2 = X.env.qual ++ "<lambda>") (hcode : X.env.code = .ref c) (hr : Room 2 X.A) (hdef : defaultsOf params X.env = ([], []) := by rfl)
    (hst : backTo pos (starEach [e] X.env) = (false, eval e X.env) :: backTo pos (starEach [] X.env) := by rfl) (hpl : (backTo pos (starEach [e] X.env)).any (·.1) = false := by rfl) :
    PE X (.Call (.Name "sorted" p) [e] [⟨some "key", .Lambda params body scope lpos, kpos⟩] pos) (tSortLot T te) := by
  refine ⟨fun pins s σ H Q I h => ?_⟩; skip
  refine wpAny_Call_Name_kw (ld_blt I hg hm boot_sorted ?_)
  refine PyProof.Rows.callWith_kw ?_ hst hpl (by rfl) (by rfl)
  rw [hst]
  refine Calls.spliced_cons (thn (he.run pins s σ H _ I h) fun v s1 ⟨w, H1, I1, r1, hTt, a, ks, e1, ha, hk, hl, h64, q⟩ => Calls.spliced_nil ?_)
  subst e1
  obtain rfl : v = Value.ref a := r1; skip
  show wpAny _ _ (evalAll [do let v ← eval (.Lambda params body scope lpos) X.env; standAt pos; pure v]) _ _ s1
  refine wpAny_evalAll_cons (wpAny_bind (LamX.lam_make2 (T := T) (c := c) (P := P) I1 TB hcode hT hT1 hTt hdef (fun y hy hfr => ?_) fun f c' pm ctv H2 s2 I2 eN T2 hf hfn _ hco => ?_))
  · rw [L.names, List.mem_cons, List.mem_singleton] at hy
    rcases hy with rfl | rfl
    · cases hfr
    · cases hfr
  refine wpAny_bind (wpAny_standAt (wpAny_pure (wpAny_evalAll_nil ?_)))
  show wpAny _ _ (call (.builtin "sorted") [.ref a] [(Str.ofString "key", .ref f)]) _ _ s2
  obtain ⟨⟨oc, vs, t, hoc, hdc, hvc⟩, _, _⟩ := I2.hok c' _ hco
  have ha2 : H2 a = some (.lst (refs ks)) := eN _ _ ha fun _ z => by cases z
  have hk2 : ∀ p ∈ ks, IsT X.prog X.w s2.heap p.2 p.1 := fun p hp => I2.isT (SqT.of (eN _ _ (hk p hp) fun _ z => by cases z))
  obtain ⟨its, rv, pl, hz⟩ := I2.list (SqL.of ha2 : SqL X.K H2 a (refs ks))
  have e2 := refs_of_vals rv
  subst e2
  have lim2 := I2.nolimit
  obtain ⟨mb, b1, b2⟩ := I2.mod.blt
  have hdp := hr.dp
  have hun := hr.un
  have hzz := sizeLine_eq
  refine sorted_key_data (b := false) (R := fun v (p : AT) => v = Value.ref p.1) keyT pl.isList (each_refs (fun _ => rfl) ks) (alike_K ks) (Sortable.tuples fun _ => ⟨_, _, rfl⟩) (by omega) (fun p _ => ?_) (ksk_s1 _ _) (fun _ => ksk_l1 _ _) (fun _ => ksk_t1 _ _) (fun v p ev hp h tk kp => ?_) fun out k h' tk kp _ hl' lo eo => ?_
  · have := dep_K p
    omega
  · subst ev
    exact lamK_turn (s := { s2 with heap := h, toks := tk }) (A := X.A.in1.in1) L (by show X.A.depth < recursionLimit; omega) (lim2.keeps kp) ((I2.mod.glob.keeps I2.bk).keeps kp) hml ((b1.keeps I2.bk).keeps kp) ((b2 _ (by decide)).trans (by rfl)) (kp _ _ hf) ⟨oc, vs, t, kp _ _ hoc, hdc, hvc⟩ (isT_keep (hk2 p hp) kp) (by have := h64 p hp; omega)
  · have rv2 := refs_each eo
    have pm := List.mergeSort_perm ks leK
    have hlen : (refs (ks.mergeSort leK)).length ≤ sizeLine := by
      unfold refs
      rw [List.length_map, pm.length_eq]
      omega
    have new : H2 (s2.heap.objs.size + 1) = none := I2.hok.fresh (Nat.le_succ _)
    exact ⟨.ref _, upd H2 (s2.heap.objs.size + 1) (.lst (refs (ks.mergeSort leK))), I2.laid (t' := tk) kp (Nat.le_succ _) ⟨hlen, out, k, by rw [rv2]; exact vals_of_refs _, hl'⟩, rfl, q H2 _ eN T2 new⟩
end
end Pl

namespace Pl
open PySem PySem.W
/-! ### lots, reckoned -/
abbrev Z := List Int
def has (l : Z) (x : Int) : Bool := decide (x ∈ l)
/-- what two have in common -/
def cap (a b : Z) : Z := a.filter (has b)
/-- without these -/
def wo (a b : Z) : Z := a.filter fun x => !has b x
def stepS (ls : List Z) (c : Int) : List Z := ls ++ ls.map (· ++ [c])
/-- all lots within one, as they are grown -/
def subs (u : Z) : List Z := u.foldl stepS [[]]
def keyZ (l : Z) : PyData := .tuple [.int l.length, .tuple (l.map .int)]
def leZ : Z → Z → Bool := dataLe false keyZ
/-- by size, then ascending -/
def parts (u : Z) : List Z := (subs u).mergeSort leZ
/-- no pair has only bad ones in common -/
def safe (W R : List Z) (bad : Z) : Bool := W.all fun w => R.all fun r => w.any fun c => has r c && !has bad c
/-- the lots sh that write and read have in common each have a good one -/
def had (sh : List Z) (bad : Z) : Bool := sh.all fun l => decide ((cap l bad).length < l.length)
def within_ (l b : Z) : Bool := l.all (has b)
def cnd (S : Z → Bool) (u : Z) (acc : List Z) (b : Z) : Bool := S (wo u b) && !acc.any (fun l => within_ l b)
def stepB (S : Z → Bool) (u : Z) (acc : List Z) (b : Z) : List Z := if cnd S u acc b = true then acc ++ [b] else acc
def leastS (S : Z → Bool) (u : Z) : List Z := (parts u).foldl (stepB S u) []
theorem has_iff {l : Z} {x : Int} : has l x = true ↔ x ∈ l := decide_eq_true_iff
theorem leZ_total : ∀ a b : Z, (leZ a b || leZ b a) = true := fun a b => by
  rw [Bool.or_eq_true]
  exact (sortLe_total (PyProof.Rows.listOrd PyProof.Rows.itemOrd) false fun b : Z => keyToks (keyZ b)).total a b
theorem leZ_trans : ∀ a b c : Z, leZ a b = true → leZ b c = true → leZ a c = true := (sortLe_total (PyProof.Rows.listOrd PyProof.Rows.itemOrd) false fun b : Z => keyToks (keyZ b)).trans
theorem leZ_len {a b : Z} (h : leZ a b = true) : a.length ≤ b.length := by
  have h' : (!dataLt (keyZ b) (keyZ a)) = true := h
  unfold keyZ at h'
  rw [dataLt_pair (by simp [alike]) (by simp [alike, alike_ints])] at h'
  simp only [PyData.eqv, beq_iff_eq, dataLt_int] at h'
  by_cases e : (b.length : Int) = a.length
  · omega
  · rw [if_neg e] at h'
    have : ¬ (b.length : Int) < a.length := by simpa using h'
    omega
theorem parts_sorted (u : Z) : (parts u).Pairwise fun a b => a.length ≤ b.length := (List.pairwise_mergeSort leZ_trans leZ_total (subs u)).imp leZ_len
theorem parts_perm (u : Z) : (parts u).Perm (subs u) := List.mergeSort_perm _ _
theorem subs_snoc (u : Z) (c : Int) : subs (u ++ [c]) = stepS (subs u) c := by
  unfold subs
  rw [List.foldl_append]
  rfl
theorem mem_subs {l : Z} : ∀ {u : Z}, l ∈ subs u ↔ l.Sublist u := fun {u} => by
  have key : ∀ (r l : Z), l ∈ subs r.reverse ↔ l.Sublist r.reverse := fun r => by
    induction r with
    | nil =>
      intro l
      simp [subs]
    | cons c r ih =>
      intro l
      rw [List.reverse_cons, subs_snoc]
      unfold stepS
      rw [List.mem_append, List.mem_map, List.sublist_append_iff]
      constructor
      · rintro (h | ⟨t, ht, rfl⟩)
        · exact ⟨l, [], by simp, (ih l).mp h, by simp⟩
        · exact ⟨t, [c], rfl, (ih t).mp ht, List.Sublist.refl _⟩
      · rintro ⟨l1, l2, rfl, h1, h2⟩
        cases h2 with
        | cons _ h =>
          cases h
          left
          rw [List.append_nil]
          exact (ih l1).mpr h1
        | cons_cons _ h =>
          cases h
          right
          exact ⟨l1, (ih l1).mpr h1, rfl⟩
  have := key u.reverse l
  rwa [List.reverse_reverse] at this
theorem mem_parts {l u : Z} : l ∈ parts u ↔ l.Sublist u := (parts_perm u).mem_iff.trans mem_subs
/-- a strictly ascending list whose members stand in another one is a part of it -/
theorem asc_sub : ∀ {a b : Z}, a.Pairwise (· < ·) → b.Pairwise (· < ·) → (∀ x ∈ a, x ∈ b) → a.Sublist b
  | [], b, _, _, _ => List.nil_sublist b
  | x :: a, [], _, _, h => absurd (h x List.mem_cons_self) List.not_mem_nil
  | x :: a, y :: b, ha, hb, h => by
    obtain ⟨a1, a2⟩ := List.pairwise_cons.mp ha
    obtain ⟨b1, b2⟩ := List.pairwise_cons.mp hb
    by_cases e : x = y
    · subst e
      refine List.Sublist.cons_cons _ (asc_sub a2 b2 fun z hz => ?_)
      rcases List.mem_cons.mp (h z (List.mem_cons_of_mem _ hz)) with r | r
      · have := a1 z hz
        omega
      · exact r
    · refine List.Sublist.cons _ (asc_sub ha b2 fun z hz => ?_)
      have hx : x ∈ b := by
        rcases List.mem_cons.mp (h x List.mem_cons_self) with r | r
        · exact absurd r e
        · exact r
      have yx := b1 x hx
      rcases List.mem_cons.mp (h z hz) with r | r
      · subst r
        rcases List.mem_cons.mp hz with q | q
        · omega
        · have := a1 z q
          omega
      · exact r
/-- a lot of so many copies -/
def Lot (n : Int) (l : Z) : Prop := l.Pairwise (· < ·) ∧ ∀ x ∈ l, 0 ≤ x ∧ x < n
theorem Lot.sub {n : Int} {a b : Z} (h : Lot n b) (s : a.Sublist b) : Lot n a := ⟨h.1.sublist s, fun x hx => h.2 x (s.subset hx)⟩
theorem Lot.mono {n m : Int} {a : Z} (h : Lot n a) (l : n ≤ m) : Lot m a := ⟨h.1, fun x hx => ⟨(h.2 x hx).1, Int.lt_of_lt_of_le (h.2 x hx).2 l⟩⟩
def five : Z := [0, 1, 2, 3, 4]
theorem Lot.five {l : Z} (h : Lot 5 l) : l.Sublist five := asc_sub h.1 (by decide) fun x hx => by
  obtain ⟨a, b⟩ := h.2 x hx
  have : x = 0 ∨ x = 1 ∨ x = 2 ∨ x = 3 ∨ x = 4 := by omega
  rcases this with rfl | rfl | rfl | rfl | rfl <;> simp [Pl.five]
theorem Lot.len {l : Z} (h : Lot 5 l) : l.length ≤ 5 := h.five.length_le
theorem cap_sub (a b : Z) : (cap a b).Sublist a := List.filter_sublist
theorem wo_sub (a b : Z) : (wo a b).Sublist a := List.filter_sublist
theorem subs_len : ∀ u : Z, (subs u).length = 2 ^ u.length := fun u => by
  have key : ∀ r : Z, (subs r.reverse).length = 2 ^ r.length := fun r => by
    induction r with
    | nil => rfl
    | cons c r ih =>
      rw [List.reverse_cons, subs_snoc]
      unfold stepS
      rw [List.length_append, List.length_map, ih, List.length_cons, Nat.pow_succ]
      omega
  have := key u.reverse
  rwa [List.reverse_reverse, List.length_reverse] at this
/-- had, of any list with just the common lots -/
theorem had_safe {sh W R : List Z} {bad : Z} (h : ∀ l, l ∈ sh ↔ ∃ w ∈ W, ∃ r ∈ R, l = cap w r) : had sh bad = safe W R bad := by
  rw [Bool.eq_iff_iff]
  unfold had safe
  rw [List.all_eq_true, List.all_eq_true]
  have one : ∀ l : Z, ((cap l bad).length < l.length) ↔ ∃ c ∈ l, c ∉ bad := fun l => by
    unfold cap
    rw [List.length_filter_lt_length_iff_exists]
    simp [has]
  constructor
  · intro g w hw
    rw [List.all_eq_true]
    intro r hr
    obtain ⟨c, hc, nb⟩ := (one _).mp (of_decide_eq_true (g (cap w r) ((h _).mpr ⟨w, hw, r, hr, rfl⟩)))
    obtain ⟨h1, h2⟩ := List.mem_filter.mp hc
    rw [List.any_eq_true]
    exact ⟨c, h1, by simp [has, has_iff.mp h2, nb]⟩
  · intro g l hl
    obtain ⟨w, hw, r, hr, rfl⟩ := (h l).mp hl
    have := List.all_eq_true.mp (g w hw) r hr
    obtain ⟨c, hc, hh⟩ := List.any_eq_true.mp this
    rw [Bool.and_eq_true] at hh
    refine decide_eq_true ((one _).mpr ⟨c, List.mem_filter.mpr ⟨hc, hh.1⟩, fun z => ?_⟩)
    have := hh.2
    simp [has, z] at this
theorem safe_mem {W R W' R' : List Z} {b b' : Z} (hW : ∀ l, l ∈ W ↔ l ∈ W') (hR : ∀ l, l ∈ R ↔ l ∈ R') (hb : ∀ x, x ∈ b ↔ x ∈ b') : safe W R b = safe W' R' b' := by
  rw [Bool.eq_iff_iff]
  unfold safe
  simp only [List.all_eq_true, List.any_eq_true, Bool.and_eq_true, Bool.not_eq_true', has, decide_eq_true_eq, decide_eq_false_iff_not]
  constructor
  · intro g w hw r hr
    obtain ⟨c, h1, h2, h3⟩ := g w ((hW w).mpr hw) r ((hR r).mpr hr)
    exact ⟨c, h1, h2, fun z => h3 ((hb c).mpr z)⟩
  · intro g w hw r hr
    obtain ⟨c, h1, h2, h3⟩ := g w ((hW w).mp hw) r ((hR r).mp hr)
    exact ⟨c, h1, h2, fun z => h3 ((hb c).mp z)⟩
theorem leastS_congr {S S' : Z → Bool} (h : ∀ b, S b = S' b) (u : Z) : leastS S u = leastS S' u := by
  have : S = S' := funext h
  rw [this]
/-- what the run told it told behind some first ones -/
theorem run_mem {S : Z → Bool} {u b : Z} : ∀ (ps acc : List Z), b ∈ ps.foldl (stepB S u) acc → b ∈ acc ∨ ∃ p1 p2, ps = p1 ++ b :: p2 ∧ cnd S u (p1.foldl (stepB S u) acc) b = true
  | [], acc, h => .inl h
  | p :: ps, acc, h => by
    rcases run_mem ps _ h with g | ⟨p1, p2, rfl, g⟩
    · unfold stepB at g
      split at g
      · rename_i c
        rcases List.mem_append.mp g with g | g
        · exact .inl g
        · rw [List.mem_singleton] at g
          subst g
          exact .inr ⟨[], ps, rfl, c⟩
      · exact .inl g
    · exact .inr ⟨p :: p1, p2, rfl, g⟩
theorem run_keeps {S : Z → Bool} {u l : Z} : ∀ (ps acc : List Z), l ∈ acc → l ∈ ps.foldl (stepB S u) acc
  | [], _, h => h
  | p :: ps, acc, h => run_keeps ps _ (by
    unfold stepB
    split
    · exact List.mem_append_left _ h
    · exact h)
theorem run_has {S : Z → Bool} {u b : Z} (hS : S (wo u b) = true) : ∀ (ps acc : List Z), b ∈ ps → ∃ l ∈ ps.foldl (stepB S u) acc, within_ l b = true
  | [], _, h => by cases h
  | p :: ps, acc, h => by
    rcases List.mem_cons.mp h with e | e; skip
    · subst e
      by_cases c : cnd S u acc b = true
      · refine ⟨b, run_keeps ps _ ?_, List.all_eq_true.mpr fun x hx => has_iff.mpr hx⟩
        unfold stepB
        rw [if_pos c]
        exact List.mem_append_right _ (List.mem_singleton.mpr rfl)
      · unfold cnd at c
        rw [hS, Bool.true_and] at c
        have c' : acc.any (fun l => within_ l b) = true := by simpa using c
        obtain ⟨l, hl, hw⟩ := List.any_eq_true.mp c'
        exact ⟨l, run_keeps ps _ (by
          unfold stepB
          split
          · exact List.mem_append_left _ hl
          · exact hl), hw⟩
    · exact run_has hS ps _ e
/-- made ruly they are safe -/
theorem least_safe {S : Z → Bool} {u b : Z} (h : b ∈ leastS S u) : b.Sublist u ∧ S (wo u b) = true := by
  rcases run_mem _ _ h with g | ⟨p1, p2, e, g⟩
  · cases g
  · refine ⟨mem_parts.mp (e ▸ List.mem_append_right _ List.mem_cons_self), ?_⟩
    unfold cnd at g
    exact (Bool.and_eq_true _ _ ▸ g).1
/-- and with one of them unruly again not -/
theorem least_not {S : Z → Bool} {u b : Z} {c : Int} (h : b ∈ leastS S u) (hc : c ∈ b) : S (wo u (b.filter fun x => decide (x ≠ c))) = false := by
  rcases run_mem _ _ h with g | ⟨p1, p2, e, g⟩
  · cases g
  · by_cases hS : S (wo u (b.filter fun x => decide (x ≠ c))) = true
    · exfalso
      have sb : b.Sublist u := mem_parts.mp (e ▸ List.mem_append_right _ List.mem_cons_self)
      have hm : (b.filter fun x => decide (x ≠ c)) ∈ parts u := mem_parts.mpr (List.filter_sublist.trans sb)
      have lt : (b.filter fun x => decide (x ≠ c)).length < b.length := List.length_filter_lt_length_iff_exists.mpr ⟨c, hc, by simp⟩
      have so := parts_sorted u
      rw [e] at hm so
      have in1 : (b.filter fun x => decide (x ≠ c)) ∈ p1 := by
        rcases List.mem_append.mp hm with q | q; skip
        · exact q
        · rcases List.mem_cons.mp q with q | q; skip
          · have := congrArg List.length q
            omega
          · have := (List.pairwise_cons.mp (List.pairwise_append.mp so).2.1).1 _ q
            omega
      obtain ⟨l, hl, hw⟩ := run_has hS p1 [] in1
      unfold cnd at g
      rw [Bool.and_eq_true] at g
      have g2 : (p1.foldl (stepB S u) []).any (fun l => within_ l b) = false := by simpa using g.2
      have : (p1.foldl (stepB S u) []).any (fun l => within_ l b) = true := List.any_eq_true.mpr ⟨l, hl, List.all_eq_true.mpr fun x hx => by
        have q := has_iff.mp (List.all_eq_true.mp hw x hx)
        exact has_iff.mpr (List.mem_filter.mp q).1⟩
      rw [g2] at this
      cases this
    · exact Bool.eq_false_iff.mpr hS
theorem within_cap {l b : Z} : (cap l b = l) ↔ within_ l b = true := by
  unfold cap within_
  rw [List.filter_eq_self, List.all_eq_true]
theorem within_wo {l b : Z} : (wo l b = []) ↔ within_ l b = true := by
  unfold wo within_
  rw [List.filter_eq_nil_iff, List.all_eq_true]
  simp
end Pl

namespace Pl
open PySem PySem.Spec PyProof.Rows L2 PySem.W PySem.SeqAt
/-! ### sorted(a tuple of ints, key=lambda copy: (-votes[copy], copy)) -/
theorem each_ints : ∀ {ns : Z} {us : List Value}, Vals (ns.map V.int) us → EachIs (fun (u : Value) (n : Int) => RelV (V.int n) u) us ns
  | [], _, .nil => .nil
  | _ :: _, _, .cons r t => .cons r (each_ints t)
theorem ints_each : ∀ {ns : Z} {us : List Value}, EachIs (fun (u : Value) (n : Int) => RelV (V.int n) u) us ns → Vals (ns.map V.int) us
  | _, _, .nil => .nil
  | _, _, .cons r t => .cons r (ints_each t)
def keyV (vts : Z) (c : Int) : PyData := .tuple [.int (-(vts.getD c.toNat 0)), .int c]
/-- the lambda's text -/
structure LamV (params : Arguments) (body : Expr) (scope : Scope) : Prop where
  co : (scope.isCoroutine = false)
  gen : (scope.isGenerator = false)
  kind : scope.kind = .function
  names : scope.names = [(("copy" : Str), NameKind.local), (("votes" : Str), NameKind.free)]
  bind : ∀ (q : Str) (cl : List (Str × Addr)) (pm cv ctv v : Value), bindArgs (kla_fn "<lambda>" q params body scope cl pm cv ctv) ⟨[v], []⟩ = pure [(("copy" : Str), v)]
  body : ∃ p1 p2 p3 p4 p5 p6 k, body = .Tuple [.UnaryOp .USub (.Subscript (.Name "votes" p1) (.Name "copy" p2) p3) p4, .Name "copy" p5] k p6
theorem lamV_turn {prog : Program} {w : World} {A : Around} {q : Str} {params : Arguments} {body : Expr} {scope : Scope} (L : LamV params body scope) (hd : A.depth < recursionLimit) {s : Shared} {f c' vc va : Addr} {cl : List (Str × Addr)} {pm ctv u : Value} {x : Int} {vts : Z} {its : List Value}
    (hlim : s.heap.NoLimit) (hf : s.heap.get? f = some (kla_obj "<lambda>" q params body scope cl pm c' ctv)) (hc : ∃ (oc : Obj) (vs : Array Value) (t : Tok), s.heap.get? c' = some oc ∧ oc.data = .fields vs ∧ vs[1]? = some (.str q t))
    (hcl : cl.lookup ("votes" : Str) = some vc) (hcell : s.heap.IsCell vc (some (.ref va))) (hva : PyProof.Rows.IsTup s.heap va its.toArray) (hvl : Vals (vts.map V.int) its) (hz : vts.length ≤ 100) (x0 : 0 ≤ x) (x1 : x.toNat < vts.length) (hu : RelV (V.int x) u) :
    wpAny (model prog w) A (call (.ref f) [u]) (KeyPure (keyV vts x) s) (fun _ _ => False) s := by
  obtain ⟨oc, vs, tk, hoc, hdc, hvc⟩ := hc
  obtain ⟨tx, rfl⟩ := hu
  refine wpAny_call (kla_callFunE hd hf rfl L.co L.gen rfl ⟨c', oc, vs, tk, rfl, hoc, hdc, hvc⟩ ?_)
  rw [L.bind]
  refine wpAny_pure (wpAny_newFunctionEnv (fun y hy => ?_) (fun y hy => ?_) (fun h1 hns hsb => ?_) L.kind)
  · rw [L.names, List.mem_cons, List.mem_singleton] at hy
    rcases hy with rfl | rfl
    · exact fun z => by cases z
    · exact fun z => by cases z
  · rw [List.mem_singleton] at hy
    rw [hy]
    show scope.names.lookup ("copy" : Str) = some .local
    rw [L.names]
    rfl
  · have kp : ∀ b o, s.heap.get? b = some o → h1.get? b = some o := fun b o e => hsb.extBut b o (Nat.ne_of_lt (Heap.lt_size e)) (Heap.get?_push_of_some _ e)
    refine ⟨hlim.keeps kp, kla_codeExpr ?_⟩
    obtain ⟨p1, p2, p3, p4, p5, p6, k, rfl⟩ := L.body
    have hx : scope.names.lookup ("copy" : Str) = some .local := by rw [L.names]; rfl
    have hv : scope.names.lookup ("votes" : Str) = some .free := by rw [L.names]; rfl
    have hl : its.length = vts.length := by
      have := hvl.length
      rw [List.length_map] at this
      exact this.symm
    obtain ⟨y, ey⟩ : ∃ y, vts[x.toNat]? = some y := ⟨_, List.getElem?_eq_getElem x1⟩
    obtain ⟨wv, ew, rw'⟩ := hvl.get (show (vts.map V.int)[x.toNat]? = some (V.int y) from by rw [List.getElem?_map, ey]; rfl)
    obtain ⟨ty, rfl⟩ := rw'
    refine wpAny_Tuple_spliced ?_
    show wpAny _ _ (spliced [(false, eval (.UnaryOp .USub (.Subscript (.Name "votes" p1) (.Name "copy" p2) p3) p4) (newEnv scope s.heap.objs.size mainGlobals cl (q ++ ".<locals>.") (some f) (.ref c') none builtinsNs)), (false, eval (.Name "copy" p5) (newEnv scope s.heap.objs.size mainGlobals cl (q ++ ".<locals>.") (some f) (.ref c') none builtinsNs))]) _ _ _
    have nm : ∀ (h : Heap) (tk : Nat) (pp : Pos) {M : Model} {A' : Around} {Q : Value → Shared → Prop} {E : Value → Shared → Prop}, (∀ b o, h1.get? b = some o → h.get? b = some o) → Q (.int x tx) { s with heap := h, toks := tk } →
        wpAny M A' (eval (.Name "copy" pp) (newEnv scope s.heap.objs.size mainGlobals cl (q ++ ".<locals>.") (some f) (.ref c') none builtinsNs)) Q E { s with heap := h, toks := tk } := fun h tk pp M A' Q E kk qq =>
      wpAny_Name (wpAny_loadName_local L.kind (by exact hx) (hns.keeps kk) (v := .int x tx) (by simp [List.lookup]) qq) (by decide)
    refine Calls.spliced_cons (wpAny_UnaryOp (Subscript_ (wpAny_Name (wpAny_loadName_free L.kind (by exact hv) hcl (hcell.keeps kp) ?_) (by decide))))
    refine nm _ _ _ (fun _ _ e => e) ?_
    have pl : PyProof.Rows.IsTup h1 va its.toArray := by
      obtain ⟨o, e1, e2⟩ := hva
      exact ⟨o, kp _ _ e1, e2⟩
    have e63 := line63
    have sj : seqIndex? x its.toArray.size = some x.toNat := by
      rw [seqIndex_of x0 (by rw [List.size_toArray, hl]; omega)]
    refine subscriptTail_builtinR (x := .int y ty) pl.typeIs slot_tuple_getitem.lookup (getItem_tuple (j := x.toNat) pl (by omega) (by omega) sj (by simpa using ew) ⟨rfl, ?_⟩)
    refine neg_int ?_
    refine Calls.spliced_cons (nm _ _ _ (fun _ _ e => e) (Calls.spliced_nil ?_))
    refine ⟨by rw [sizeLine_eq]; simp, ?_⟩
    refine ⟨_, _, rfl, fun b o e => Heap.get?_push_of_some _ (kp b o e), ?_⟩
    have eg : vts.getD x.toNat 0 = y := by
      rw [List.getD_eq_getElem?_getD, ey]
      rfl
    unfold keyV
    rw [eg]
    refine .tuple (Heap.get?_push_size _ rfl) rfl rfl ?_
    exact .cons (as := []) (bs := []) (.int _ _) (.cons (as := []) (bs := []) (.int _ _) .nil)
/-! sorted(e, key=the lambda), e a tuple of ints -/
def leV (vts : Z) : Int → Int → Bool := dataLe false (keyV vts)
def tSortV (T : List (Addr × Str)) (i : Nat) (te : TE) : TE := fun σ H Q => ∃ (va : Addr) (vts : Z), σ[i]? = some (some (.ref va)) ∧ H va = some (.tup (vts.map V.int)) ∧ vts.length ≤ 100 ∧ te σ H fun v H1 => Same H H1 ∧ LamX.Tabs T H1 ∧ ∃ (a : Addr) (ns : Z), v = .ref a ∧ H1 a = some (.tup (ns.map V.int)) ∧ (∀ x ∈ ns, 0 ≤ x ∧ x.toNat < vts.length) ∧
  ∀ H2 p, LamX.ExtN H1 H2 → LamX.Tabs T H2 → H2 p = none → Q (.ref p) (upd H2 p (.lst ((ns.mergeSort (leV vts)).map V.int)))
theorem dep_V (vts : Z) (x : Int) : (keyV vts x).depth ≤ 1 := by
  unfold keyV
  simp [PyData.depth, PyData.depthAll]
theorem alike_V (vts : Z) (bs : Z) : AllAlike (bs.map (keyV vts)) := AllAlike.of fun a b => by simp [keyV, alike, alikeAll]
section
variable {X : Cx} {s : Shared} {pins : List (Addr × Obj)} {H : Hp} {σ : L2.St}
theorem pe_sortV {e : Expr} {te : TE} {params : Arguments} {body : Expr} {scope : Scope} {T : List (Addr × Str)} {c P : Addr} {p lpos kpos pos : Pos} {i : Nat} (L : LamV params body scope) (hg : Gl X "sorted") (hm : X.mg "sorted" = none) (he : PE X e te) (TB : LamX.TabB X.base X.mg c P)
    (hT : (P, X.env.qual ++ "<lambda>") ∈ T) (hT1 : ∀ p ∈ T, p.1 = P → p.2 = X.env.qual ++ "<lambda>") (hcode : X.env.code = .ref c) (hr : Room 2 X.A) (hN : X.N[i]? = some ("votes" : Str)) (hv : X.env.scope.names.lookup ("votes" : Str) = some .cell) (hdef : defaultsOf params X.env = ([], []) := by rfl)
    (hst : backTo pos (starEach [e] X.env) = (false, eval e X.env) :: backTo pos (starEach [] X.env) := by rfl) (hpl : (backTo pos (starEach [e] X.env)).any (·.1) = false := by rfl) :
    PE X (.Call (.Name "sorted" p) [e] [⟨some "key", .Lambda params body scope lpos, kpos⟩] pos) (tSortV T i te) := by
  refine ⟨fun pins s σ H Q I h => ?_⟩; skip
  obtain ⟨va, vts, hs, hva, h100, h⟩ := h
  refine wpAny_Call_Name_kw (ld_blt I hg hm boot_sorted ?_)
  refine PyProof.Rows.callWith_kw ?_ hst hpl (by rfl) (by rfl)
  rw [hst]
  refine Calls.spliced_cons (thn (he.run pins s σ H _ I h) fun v s1 ⟨w, H1, I1, r1, sH, hTt, a, ns, e1, ha, hn, q⟩ => Calls.spliced_nil ?_)
  subst e1
  obtain rfl : v = Value.ref a := r1; skip
  show wpAny _ _ (evalAll [do let v ← eval (.Lambda params body scope lpos) X.env; standAt pos; pure v]) _ _ s1
  obtain ⟨vc, hvc0⟩ := I1.ok.has ("votes" : Str) (.inl hv)
  have hfree : ∀ y ∈ scope.names, y.2 = .free → ∃ c, X.env.cells.lookup y.1 = some c := fun y hy hfr => by
    rw [L.names, List.mem_cons, List.mem_singleton] at hy
    rcases hy with rfl | rfl
    · cases hfr
    · exact ⟨vc, hvc0⟩
  refine wpAny_evalAll_cons (wpAny_bind (LamX.lam_make2 (T := T) (c := c) (P := P) I1 TB hcode hT hT1 hTt hdef hfree fun f c' pm ctv H2 s2 I2 eN T2 hf hfn _ hco => ?_))
  refine wpAny_bind (wpAny_standAt (wpAny_pure (wpAny_evalAll_nil ?_)))
  show wpAny _ _ (call (.builtin "sorted") [.ref a] [(Str.ofString "key", .ref f)]) _ _ s2
  obtain ⟨⟨oc, vs, t, hoc, hdc, hvc⟩, _, _⟩ := I2.hok c' _ hco
  have ha2 : H2 a = some (.tup (ns.map V.int)) := eN _ _ ha fun _ z => by cases z
  have hva2 : H2 va = some (.tup (vts.map V.int)) := eN _ _ (sH _ _ hva) fun _ z => by cases z
  obtain ⟨its, rv, pl, hz⟩ := I2.tuple (SqT.of ha2 : SqT X.K H2 a (ns.map V.int))
  obtain ⟨ivs, rvv, plv, hzv⟩ := I2.tuple (SqT.of hva2 : SqT X.K H2 va (vts.map V.int))
  have e := each_ints rv
  have hz' : ns.length ≤ sizeLine := by
    rw [List.length_map] at hz
    exact hz
  have lim2 := I2.nolimit
  have hdp := hr.dp
  have hun := hr.un
  have hzz := sizeLine_eq
  have hclo : (cloFrom X.env.cells scope.names []).lookup ("votes" : Str) = some vc := by
    rw [L.names]
    show (cloFrom X.env.cells [(("copy" : Str), NameKind.local), (("votes" : Str), NameKind.free)] []).lookup ("votes" : Str) = some vc
    have : cloFrom X.env.cells [(("copy" : Str), NameKind.local), (("votes" : Str), NameKind.free)] [] = [(("votes" : Str), (X.env.cells.lookup ("votes" : Str)).getD 0)] := rfl
    rw [this, hvc0]
    rfl
  have hcell : s2.heap.IsCell vc (some (.ref va)) := by
    obtain ⟨m, hn, hl⟩ := I2.loc
    obtain ⟨w', r, z⟩ := hl i ("votes" : Str) (.ref va) hN hs (.inr (.inl hv))
    obtain rfl : w' = Value.ref va := r
    rcases z with ⟨k', _⟩ | ⟨_, c3, e', z⟩
    · have k' : X.env.scope.names.lookup ("votes" : Str) = some .local := k'
      rw [hv] at k'
      cases k'
    · rw [show X.env.cells.lookup ("votes" : Str) = some c3 from e'] at hvc0
      cases hvc0
      exact z
  refine tup_sorted_key (R := fun (u : Value) (n : Int) => RelV (V.int n) u) (keyV vts) pl e (alike_V vts ns) (Sortable.tuples fun _ => ⟨_, _, rfl⟩) hz' (fun x _ => ?_) (fun u x ru hx h tk kp => ?_) fun out k h' tk kp hl' lo eo => ?_
  · have := dep_V vts x
    omega
  · have hx2 := hn x hx
    exact lamV_turn (s := { s2 with heap := h, toks := tk }) (A := X.A.in1.in1) L (by show X.A.depth < recursionLimit; omega) (lim2.keeps kp) (kp _ _ hf) ⟨oc, vs, t, kp _ _ hoc, hdc, hvc⟩ hclo (hcell.keeps kp) (by
      obtain ⟨o, e1, e2⟩ := plv
      exact ⟨o, kp _ _ e1, e2⟩) rvv h100 hx2.1 hx2.2 ru
  · have pm := List.mergeSort_perm ns (leV vts)
    have hlen : ((ns.mergeSort (leV vts)).map V.int).length ≤ sizeLine := by
      rw [List.length_map, pm.length_eq]
      exact hz'
    have new : H2 (s2.heap.objs.size + 1) = none := I2.hok.fresh (Nat.le_succ _)
    exact ⟨.ref _, upd H2 (s2.heap.objs.size + 1) (.lst ((ns.mergeSort (leV vts)).map V.int)), I2.laid (t' := tk) kp (Nat.le_succ _) ⟨hlen, out, k, ints_each eo, hl'⟩, rfl, q H2 _ eN T2 new⟩
end
end Pl

namespace Pl
open PySem PySem.W PyProof.Rows
/-! ### votes, reckoned -/
def vt (v : Z) (c : Int) : Int := v.getD c.toNat 0
def vsum (v l : Z) : Int := (l.map (vt v)).sum
def heavy (v : Z) (u : Nat) (l : Z) : Z := (l.mergeSort (leV v)).take u
def sureP (v : Z) (u : Nat) (l : Z) : Int := vsum v l - vsum v (heavy v u l)
def enoughP (v : Z) (need : Int) (u : Nat) (l : Z) : Bool := decide (sureP v u l > v.sum - need)
def writeP (v : Z) (need : Int) (l : Z) : Bool := decide (vsum v l ≥ need)
theorem leV_total (v : Z) : ∀ a b : Int, (leV v a b || leV v b a) = true := fun a b => by
  rw [Bool.or_eq_true]
  exact (sortLe_total (PyProof.Rows.listOrd PyProof.Rows.itemOrd) false fun b : Int => keyToks (keyV v b)).total a b
theorem leV_trans (v : Z) : ∀ a b c : Int, leV v a b = true → leV v b c = true → leV v a c = true := (sortLe_total (PyProof.Rows.listOrd PyProof.Rows.itemOrd) false fun b : Int => keyToks (keyV v b)).trans
theorem leV_le {v : Z} {a b : Int} (h : leV v a b = true) : vt v b ≤ vt v a := by
  have h' : (!dataLt (keyV v b) (keyV v a)) = true := h
  unfold keyV at h'
  rw [dataLt_ii] at h'
  rw [Bool.not_eq_true', decide_eq_false_iff_not] at h'
  have h2 : ¬ (-(v.getD b.toNat 0) < -(v.getD a.toNat 0) ∨ (-(v.getD b.toNat 0) = -(v.getD a.toNat 0) ∧ b < a)) := h'
  unfold vt
  omega
theorem sorted_V (v l : Z) : (l.mergeSort (leV v)).Pairwise fun a b => vt v b ≤ vt v a := (List.pairwise_mergeSort (leV_trans v) (leV_total v) l).imp leV_le
theorem perm_sum {a b : Z} (h : a.Perm b) : a.sum = b.sum := by
  induction h with
  | nil => rfl
  | cons x _ ih => rw [List.sum_cons, List.sum_cons, ih]
  | swap x y l =>
    simp only [List.sum_cons]
    omega
  | trans _ _ h1 h2 => exact h1.trans h2
theorem vsum_perm {v a b : Z} (h : a.Perm b) : vsum v a = vsum v b := perm_sum (h.map _)
theorem vsum_cons (v : Z) (x : Int) (l : Z) : vsum v (x :: l) = vt v x + vsum v l := List.sum_cons
theorem vsum_app (v a b : Z) : vsum v (a ++ b) = vsum v a + vsum v b := by
  unfold vsum
  rw [List.map_append, List.sum_append]
theorem vt_nn {v : Z} (h : ∀ x ∈ v, 0 ≤ x) (c : Int) : 0 ≤ vt v c := by
  unfold vt
  rw [List.getD_eq_getElem?_getD]; skip
  cases e : v[c.toNat]? with
  | none => exact Int.le_refl _
  | some x => exact h x (List.mem_of_getElem? e)
theorem vsum_nn {v : Z} (h : ∀ x ∈ v, 0 ≤ x) : ∀ l : Z, 0 ≤ vsum v l
  | [] => Int.le_refl _
  | x :: l => by
    rw [vsum_cons]
    have := vt_nn h x
    have := vsum_nn h l
    omega
/-- what is left when so many of most votes are left out -/
theorem sure_drop (v : Z) (u : Nat) (l : Z) : sureP v u l = (((l.mergeSort (leV v)).map (vt v)).drop u).sum := by
  unfold sureP heavy
  rw [← vsum_perm (List.mergeSort_perm l (leV v))]
  generalize l.mergeSort (leV v) = ds
  have e := congrArg List.sum (List.take_append_drop u (ds.map (vt v)))
  rw [List.sum_append, ← List.map_take] at e
  unfold vsum
  omega
theorem top_sum {v : Z} (nn : ∀ x ∈ v, 0 ≤ x) : ∀ {ds s : Z} {u : Nat}, ds.Pairwise (fun a b => vt v b ≤ vt v a) → s.Nodup → (∀ x ∈ s, x ∈ ds) → s.length ≤ u → vsum v s ≤ vsum v (ds.take u)
  | [], s, u, _, _, sub, _ => by
    have : s = [] := by
      cases s with
      | nil => rfl
      | cons x s => exact absurd (sub x List.mem_cons_self) List.not_mem_nil
    rw [this, List.take_nil]
    exact Int.le_refl _
  | d :: ds, s, 0, _, _, _, l => by
    have : s = [] := List.eq_nil_of_length_eq_zero (by omega)
    rw [this, List.take_zero]
    exact Int.le_refl _
  | d :: ds, s, u + 1, pw, ns, sub, l => by
    obtain ⟨p1, p2⟩ := List.pairwise_cons.mp pw
    rw [List.take_succ_cons, vsum_cons]
    by_cases hd : d ∈ s
    · have pe := List.perm_cons_erase hd
      rw [vsum_perm pe, vsum_cons]
      have := top_sum nn (ds := ds) (s := s.erase d) (u := u) p2 (ns.erase d) (fun x hx => by
        have h1 := (ns.mem_erase_iff).mp hx
        rcases List.mem_cons.mp (sub x h1.2) with e | e
        · exact absurd e h1.1
        · exact e) (by
        have := pe.length_eq
        rw [List.length_cons] at this
        omega)
      omega
    · have sub' : ∀ x ∈ s, x ∈ ds := fun x hx => by
        rcases List.mem_cons.mp (sub x hx) with e | e
        · exact absurd (e ▸ hx) hd
        · exact e
      cases s with
      | nil =>
        have h1 := vt_nn nn d
        have h2 := vsum_nn nn (ds.take u)
        show (0 : Int) ≤ _
        omega
      | cons x s =>
        have h1 := p1 x (sub' x List.mem_cons_self)
        have h2 := top_sum nn (ds := ds) (s := s) (u := u) p2 (List.nodup_cons.mp ns).2 (fun y hy => sub' y (List.mem_cons_of_mem _ hy)) (by
          rw [List.length_cons] at l
          omega)
        rw [vsum_cons]
        omega
theorem sub_sum {v : Z} (nn : ∀ x ∈ v, 0 ≤ x) : ∀ {ds s : Z}, s.Nodup → (∀ x ∈ s, x ∈ ds) → vsum v s ≤ vsum v ds
  | [], s, _, sub => by
    have : s = [] := by
      cases s with
      | nil => rfl
      | cons x s => exact absurd (sub x List.mem_cons_self) List.not_mem_nil
    rw [this]
    exact Int.le_refl _
  | d :: ds, s, ns, sub => by
    rw [vsum_cons]
    by_cases hd : d ∈ s
    · have pe := List.perm_cons_erase hd
      rw [vsum_perm pe, vsum_cons]
      have := sub_sum nn (ds := ds) (s := s.erase d) (ns.erase d) (fun x hx => by
        have h1 := (ns.mem_erase_iff).mp hx
        rcases List.mem_cons.mp (sub x h1.2) with e | e
        · exact absurd e h1.1
        · exact e)
      omega
    · have := sub_sum nn (ds := ds) (s := s) ns (fun x hx => by
        rcases List.mem_cons.mp (sub x hx) with e | e
        · exact absurd (e ▸ hx) hd
        · exact e)
      have := vt_nn nn d
      omega
def rgN (n : Nat) : Z := (List.range n).map fun i : Nat => 0 + (i : Int)
theorem rgN_sum (v : Z) : vsum v (rgN v.length) = v.sum := by
  unfold vsum rgN
  rw [List.map_map]
  refine congrArg List.sum (List.ext_getElem (by simp) fun i h1 h2 => ?_)
  simp only [List.getElem_map, List.getElem_range, Function.comp]
  unfold vt
  rw [show ((0 : Int) + (i : Int)).toNat = i by omega, List.getD_eq_getElem?_getD, List.getElem?_eq_getElem h2]
  rfl
theorem vsum_split (v a b : Z) : vsum v a = vsum v (cap a b) + vsum v (wo a b) := by
  induction a with
  | nil => rfl
  | cons x a ih =>
    unfold cap wo at *
    rw [List.filter_cons, List.filter_cons, vsum_cons, ih]
    cases has b x
    · simp only [Bool.not_false, if_true, vsum_cons]
      rw [if_neg (by decide)]
      omega
    · simp only [Bool.not_true, if_true, vsum_cons]
      rw [if_neg (by decide)]
      omega
theorem Lot.nodup {n : Int} {l : Z} (h : Lot n l) : l.Nodup := h.1.imp fun h => by omega
/-- a lot that is enough meets a write lot in more than so many -/
theorem meets_ok {v E W : Z} {need : Int} {u : Nat} (nn : ∀ x ∈ v, 0 ≤ x) (hE : Lot v.length E) (hW : Lot v.length W) (he : enoughP v need u E = true) (hw : writeP v need W = true) : u < (cap E W).length := by
  apply Decidable.byContradiction
  intro hn
  have he := of_decide_eq_true he
  have hw := of_decide_eq_true hw
  unfold sureP at he
  have nc : (cap E W).Nodup := hE.nodup.sublist (cap_sub _ _)
  have h1 : vsum v (cap E W) ≤ vsum v (heavy v u E) := top_sum nn (sorted_V v E) nc (fun x hx => (List.mergeSort_perm E (leV v)).mem_iff.mpr ((cap_sub E W).subset hx)) (by omega)
  have h2 := vsum_split v E W
  have h3 : vsum v (W ++ wo E W) ≤ vsum v (rgN v.length) := sub_sum nn (by
    rw [List.nodup_append]
    refine ⟨hW.nodup, hE.nodup.sublist (wo_sub _ _), fun x hx y hy e => ?_⟩
    subst e
    have := (List.mem_filter.mp hy).2
    rw [has_iff.mpr hx] at this
    cases this) (fun x hx => by
    have hb : 0 ≤ x ∧ x < v.length := by
      rcases List.mem_append.mp hx with h | h
      · exact hW.2 x h
      · exact hE.2 x ((wo_sub _ _).subset h)
    unfold rgN
    refine List.mem_map.mpr ⟨x.toNat, List.mem_range.mpr (by omega), by omega⟩)
  rw [rgN_sum, vsum_app] at h3
  omega
/-! ### equal data -/
theorem eqv_ints : ∀ a b : Z, PyData.eqvAll (a.map .int) (b.map .int) = decide (a = b)
  | [], [] => by simp [PyData.eqvAll]
  | [], _ :: _ => by simp [PyData.eqvAll]
  | _ :: _, [] => by simp [PyData.eqvAll]
  | x :: a, y :: b => by
    rw [List.map_cons, List.map_cons]; skip
    unfold PyData.eqvAll
    rw [eqv_ints a b]
    show ((x == y) && decide (a = b)) = _
    by_cases h1 : x = y <;> by_cases h2 : a = b <;> simp [h1, h2]
def datZ (l : Z) : PyData := .tuple (l.map .int)
def datZs (ls : List Z) : PyData := .list (ls.map datZ)
theorem eqv_Z (a b : Z) : PyData.eqv (datZ a) (datZ b) = decide (a = b) := eqv_ints a b
theorem eqv_Zs : ∀ as bs : List Z, PyData.eqvAll (as.map datZ) (bs.map datZ) = decide (as = bs)
  | [], [] => by simp [PyData.eqvAll]
  | [], _ :: _ => by simp [PyData.eqvAll]
  | _ :: _, [] => by simp [PyData.eqvAll]
  | x :: a, y :: b => by
    rw [List.map_cons, List.map_cons]; skip
    unfold PyData.eqvAll
    rw [eqv_Zs a b, eqv_Z]
    by_cases h1 : x = y <;> by_cases h2 : a = b <;> simp [h1, h2]
theorem lay_ints : ∀ a : Z, PyData.canLayAll0 (a.map .int) = true
  | [] => by simp [PyData.canLayAll0]
  | x :: a => by simp [PyData.canLayAll0, PyData.canLay0, lay_ints a]
theorem shaped_Z (a : Z) : SeqAt.shaped (datZ a) = true := by
  unfold SeqAt.shaped datZ
  rw [PyData.canLay0, lay_ints, PyData.depth, dep_ints]
  decide
theorem lay_Zs : ∀ as : List Z, PyData.canLayAll0 (as.map datZ) = true
  | [] => by simp [PyData.canLayAll0]
  | x :: as => by
    rw [List.map_cons]
    unfold PyData.canLayAll0
    rw [lay_Zs as, show PyData.canLay0 (datZ x) = true from by unfold datZ; rw [PyData.canLay0]; exact lay_ints x]
    rfl
theorem dep_Zs : ∀ as : List Z, PyData.depthAll (as.map datZ) ≤ 1
  | [] => by simp [PyData.depthAll]
  | x :: as => by
    have h := dep_Zs as
    have h2 : (datZ x).depth ≤ 1 := by
      unfold datZ
      rw [PyData.depth, dep_ints]
      omega
    rw [List.map_cons]
    unfold PyData.depthAll
    omega
theorem shaped_Zs (as : List Z) : SeqAt.shaped (datZs as) = true := by
  unfold SeqAt.shaped datZs
  rw [PyData.canLay0, lay_Zs, PyData.depth, Bool.true_and]
  have := dep_Zs as
  exact decide_eq_true (by omega); skip
/-! ### by size, then ascending -/
def encZ (l : Z) : PyData := .tuple (l.map .int)
def leE : Z → Z → Bool := dataLe false encZ
theorem leE_iff {a b : Z} : leE a b = true ↔ ¬ b < a := by
  have e : leE a b = !decide (b < a) := by
    show (!dataLt (encZ b) (encZ a)) = _
    unfold encZ
    rw [dataLt_tuple]
    exact congrArg (!·) (dataLt_ints b a)
  rw [e]
  simp
theorem leE_total : ∀ a b : Z, (leE a b || leE b a) = true := fun a b => by
  rw [Bool.or_eq_true]
  exact (sortLe_total (PyProof.Rows.listOrd PyProof.Rows.itemOrd) false fun b : Z => keyToks (encZ b)).total a b
theorem leE_trans : ∀ a b c : Z, leE a b = true → leE b c = true → leE a c = true := (sortLe_total (PyProof.Rows.listOrd PyProof.Rows.itemOrd) false fun b : Z => keyToks (encZ b)).trans
theorem leE_anti {a b : Z} (h1 : leE a b = true) (h2 : leE b a = true) : a = b := by
  have h1 := leE_iff.mp h1
  have h2 := leE_iff.mp h2
  exact List.le_antisymm (List.not_lt.mp h1) (List.not_lt.mp h2)
theorem leZ_iff {a b : Z} : leZ a b = true ↔ a.length < b.length ∨ (a.length = b.length ∧ leE a b = true) := by
  have e : leZ a b = !dataLt (keyZ b) (keyZ a) := rfl
  have e2 : leE a b = !dataLt (encZ b) (encZ a) := rfl
  rw [e, e2]
  unfold keyZ encZ
  rw [dataLt_pair (by simp [alike]) (by simp [alike, alike_ints])]
  have ex : PyData.eqv (.tuple (b.map .int)) (.tuple (a.map .int)) = decide (b = a) := eqv_ints b a
  rw [ex]
  simp only [PyData.eqv, beq_iff_eq, dataLt_int, decide_eq_true_eq]
  by_cases e : (b.length : Int) = a.length
  · rw [if_pos e]
    have e' : a.length = b.length := by omega
    by_cases e3 : b = a
    · subst e3
      have : dataLt (.tuple (b.map .int)) (.tuple (b.map .int)) = false := by
        rw [dataLt_tuple]
        exact (dataLt_ints b b).trans (decide_eq_false (List.lt_irrefl b))
      simp [this]
    · simp [e3, e']
  · rw [if_neg e]
    constructor
    · intro h
      rw [Bool.not_eq_true', decide_eq_false_iff_not] at h
      exact .inl (by omega)
    · rintro (h | h)
      · rw [Bool.not_eq_true', decide_eq_false_iff_not]
        omega
      · omega
theorem leZ_anti {a b : Z} (h1 : leZ a b = true) (h2 : leZ b a = true) : a = b := by
  rcases leZ_iff.mp h1 with p | ⟨p1, p2⟩ <;> rcases leZ_iff.mp h2 with q | ⟨q1, q2⟩
  · omega
  · omega
  · omega
  · exact leE_anti p2 q2
def ofLen (ls : List Z) (k : Nat) : List Z := ls.filter fun l => decide (l.length = k)
def inSize (ls : List Z) : List Z := (List.range 6).flatMap fun k => (ofLen ls k).mergeSort leE
theorem flat_perm (ls : List Z) : ∀ n, ((List.range n).flatMap fun k => (ofLen ls k).mergeSort leE).Perm (ls.filter fun l => decide (l.length < n))
  | 0 => by simp
  | n + 1 => by
    rw [List.range_succ, List.flatMap_append]
    refine ((flat_perm ls n).append (show (List.flatMap (fun k => (ofLen ls k).mergeSort leE) [n]).Perm (ofLen ls n) from ?_)).trans ?_
    · rw [List.flatMap_singleton]
      exact List.mergeSort_perm _ _
    · refine List.Perm.trans ?_ (List.filter_append_perm (fun l : Z => decide (l.length < n)) (ls.filter fun l => decide (l.length < n + 1)))
      unfold ofLen
      rw [List.filter_filter, List.filter_filter]
      refine List.Perm.append (.of_eq ?_) (.of_eq ?_)
      · refine List.filter_congr fun l _ => ?_
        rw [Bool.eq_iff_iff, Bool.and_eq_true, decide_eq_true_iff, decide_eq_true_iff]
        omega
      · refine List.filter_congr fun l _ => ?_
        rw [Bool.eq_iff_iff, Bool.and_eq_true, Bool.not_eq_true', decide_eq_false_iff_not, decide_eq_true_iff, decide_eq_true_iff]
        omega
theorem inSize_perm {ls : List Z} (h : ∀ l ∈ ls, l.length ≤ 5) : (inSize ls).Perm ls := by
  refine (flat_perm ls 6).trans (.of_eq (List.filter_eq_self.mpr fun l hl => decide_eq_true ?_))
  have := h l hl
  omega
theorem inSize_sorted (ls : List Z) : (inSize ls).Pairwise fun a b => leZ a b = true := by
  unfold inSize
  rw [List.pairwise_flatMap]
  have mem : ∀ {k : Nat} {l : Z}, l ∈ (ofLen ls k).mergeSort leE → l.length = k := fun {k l} h => of_decide_eq_true (List.mem_filter.mp ((List.mergeSort_perm _ _).mem_iff.mp h)).2
  refine ⟨fun k _ => ?_, (List.pairwise_lt_range (n := 6)).imp fun {i j} h a ha b hb => ?_⟩
  · have p := List.pairwise_mergeSort leE_trans leE_total (ofLen ls k)
    refine p.imp_of_mem fun {a b} ha hb h => leZ_iff.mpr (.inr ⟨?_, h⟩)
    rw [mem ha, mem hb]
  · refine leZ_iff.mpr (.inl ?_)
    rw [mem ha, mem hb]
    exact h
/-- picked out of the sorted, or sorted when picked -/
theorem inSize_parts {u : Z} (h : u.length ≤ 5) (p : Z → Bool) : (parts u).filter p = inSize ((subs u).filter p) := by
  refine List.Perm.eq_of_pairwise (le := fun a b => leZ a b = true) (fun a b _ _ => leZ_anti) ?_ (inSize_sorted _) ?_
  · exact (List.pairwise_mergeSort leZ_trans leZ_total (subs u)).sublist List.filter_sublist
  · refine ((parts_perm u).filter p).trans (inSize_perm fun l hl => ?_).symm
    have := (mem_subs.mp (List.mem_filter.mp hl).1).length_le
    omega
end Pl

namespace Pl
open L2 PySem PySem.Spec PyProof.Rows
/-! ### the text by places -/
def top (i : Nat) : Stmt := PySem.Challenge.pw_plainstore_k18_whole_best_counts_and_vot.main.body.getD i (.Pass ⟨0, 0, 0, 0⟩)
abbrev sIsNumber : Stmt := top 18
abbrev sIsWithin : Stmt := top 19
abbrev sAllLots : Stmt := top 22
abbrev sIsRatio : Stmt := top 25
abbrev sIsChance : Stmt := top 26
abbrev sLowered : Stmt := top 27
abbrev sIsSmall : Stmt := top 28
abbrev sBestC : Stmt := top 32
abbrev sBestV : Stmt := top 33
abbrev sCkUnruly : Stmt := top 34
abbrev sVotesOf : Stmt := top 35
abbrev sLotsOf : Stmt := top 36
abbrev sHeavy : Stmt := top 37
abbrev sSure : Stmt := top 38
abbrev sAreCh : Stmt := top 39
abbrev sCkChance : Stmt := top 40
abbrev sWeights : Stmt := top 41
abbrev sAtLeast : Stmt := top 42
abbrev sWorth : Stmt := top 43
abbrev sTry : Stmt := top 44
abbrev sByNeed : Stmt := top 45
abbrev sPool : Stmt := top 47
abbrev sTake : Stmt := top 48
abbrev sOne : Stmt := top 49
abbrev sLAll : Stmt := top 50
abbrev sCaught : Stmt := top 51
abbrev sLSum : Stmt := top 52
abbrev sLSure : Stmt := top 53
abbrev sLEnough : Stmt := top 54
abbrev sLLow : Stmt := top 55
abbrev sLChance : Stmt := top 56
abbrev sLWeight : Stmt := top 57
abbrev sLUp : Stmt := top 58
abbrev sLCounts : Stmt := top 59
abbrev sLLonger : Stmt := top 60
abbrev sLAllV : Stmt := top 61
abbrev sLWorth : Stmt := top 62
abbrev sLDue : Stmt := top 63
abbrev sLFour : Stmt := top 64
abbrev sLaw : Stmt := top 65
/-- what the top has left of constants and built-ins -/
structure Cst (mg : Str → Option Value) : Prop where
  isi : mg "isinstance" = none
  len : mg "len" = none
  tint : mg "int" = none
  tbool : mg "bool" = none
  tlst : mg "list" = none
  ttup : mg "tuple" = none
  tset : mg "set" = none
  rng : mg "range" = none
  max_ : mg "max" = none
  min_ : mg "min" = none
  rpr : mg "repr" = none
  enum : mg "enumerate" = none
  srt : mg "sorted" = none
  all_ : mg "all" = none
  any_ : mg "any" = none
  zip_ : mg "zip" = none
  copies : ∃ t, mg "MOST_COPIES" = some (.int 5 t)
  copiesT : ∃ t, mg "MOST_COPIES_TRIED" = some (.int 4 t)
  votesT : ∃ t, mg "MOST_VOTES_TRIED" = some (.int 3 t)
  sum_ : mg "sum" = none
  gcd : mg "gcd" = some (.builtin "math.gcd")
  gr : ∃ t, mg "GREATEST_HANDED_IN" = some (.int 20 t)
/-- a def of the text as its callers see it -/
structure Df (P : Program) (w : World) (K : PySem.W.Frag) (mg : Str → Option Value) (base : Heap) (k : Nat) (x : Str) (ps : List Str) (sp : Sp) : Prop where
  ex : ∃ (f : Addr) (fd : FuncData), FnOk P w K mg base CX0 k f fd ps sp ∧ mg x = some (.ref f) ∧ PySem.W.keepIn K (.ref f) = true ∧ Binds K fd ps []
/-- one that may raise -/
structure DfX (P : Program) (w : World) (K : PySem.W.Frag) (mg : Str → Option Value) (base : Heap) (k : Nat) (x : Str) (ps : List Str) (sp : Sp) : Prop where
  ex : ∃ (f : Addr) (fd : FuncData), FnOk P w K mg base (L2.CX P w) k f fd ps sp ∧ mg x = some (.ref f) ∧ PySem.W.keepIn K (.ref f) = true ∧ Binds K fd ps []
/-- a flat value and what it is -/
inductive Fl : V → PyData → Prop
  | non : Fl .non .none
  | bl (b : Bool) : Fl (.bl b) (.bool b)
  | int (i : Int) : Fl (.int i) (.int i)
  | str (x : Str) : Fl (.str x) (.str x)
theorem Fl.dv {v : V} {d : PyData} {m : Bool} {z : Addr} {H : Hp} {k : Bool} (h : Fl v d) : Dv m z H k v d := by
  cases h with
  | non => exact .non
  | bl b => exact .bl b
  | int i => exact .int i
  | str x => exact .str x
def kindOf : PyData → String
  | .none => "NoneType"
  | .bool _ => "bool"
  | .int _ => "int"
  | _ => "str"
theorem Fl.ty {K : PySem.W.Frag} {H : Hp} {v : V} {d : PyData} (h : Fl v d) : TyX K H v (.type (kindOf d)) := by
  cases h with
  | non => exact .base .non
  | bl b => exact .base (.bl b)
  | int i => exact .base (.int i)
  | str x => exact .base (.str x)
def isIB : PyData → Bool
  | .int _ => true
  | .bool _ => true
  | _ => false
theorem kit_int {K : PySem.W.Frag} {v : V} {d : PyData} (h : Fl v d) : PySem.W.kitOne K (.type (kindOf d)) (.type "int") = some (isIB d) := by
  cases h with
  | non => exact kit_ty (show kitB "NoneType" "int" = some false from by decide +kernel)
  | bl b => exact kit_ty (show kitB "bool" "int" = some true from by decide +kernel)
  | int i => exact kit_ty (show kitB "int" "int" = some true from by decide +kernel)
  | str x => exact kit_ty (show kitB "str" "int" = some false from by decide +kernel)
def isB : PyData → Bool
  | .bool _ => true
  | _ => false
theorem kit_bool {K : PySem.W.Frag} {v : V} {d : PyData} (h : Fl v d) : PySem.W.kitOne K (.type (kindOf d)) (.type "bool") = some (isB d) := by
  cases h with
  | non => exact kit_ty (show kitB "NoneType" "bool" = some false from by decide +kernel)
  | bl b => exact kit_ty (show kitB "bool" "bool" = some true from by decide +kernel)
  | int i => exact kit_ty (show kitB "int" "bool" = some false from by decide +kernel)
  | str x => exact kit_ty (show kitB "str" "bool" = some false from by decide +kernel)
def isNum : PyData → Bool
  | .int _ => true
  | _ => false
def within (d : PyData) (lo hi : Int) : Bool := match d with
  | .int i => decide (lo ≤ i) && decide (i ≤ hi)
  | _ => false
theorem within_no {d : PyData} {lo hi : Int} (h : isNum d = false) : within d lo hi = false := by
  cases d <;> first | rfl | cases h
theorem within_inv {v : V} {d : PyData} {lo hi : Int} (f : Fl v d) (h : within d lo hi = true) : ∃ i, v = .int i ∧ d = .int i ∧ lo ≤ i ∧ i ≤ hi := by
  cases f with
  | int i =>
    have h' : (decide (lo ≤ i) && decide (i ≤ hi)) = true := h
    rw [Bool.and_eq_true, decide_eq_true_eq, decide_eq_true_eq] at h'
    exact ⟨i, rfl, rfl, h'.1, h'.2⟩
  | non => cases h
  | bl b => cases h
  | str x => cases h
/-- a flat value, or a tuple -/
inductive Nv (H : Hp) : V → PyData → Prop
  | fl {v : V} {d : PyData} (h : Fl v d) : Nv H v d
  | tup {a : Addr} {xs : List V} {ds : List PyData} (h : H a = some (.tup xs)) : Nv H (.ref a) (.tuple ds)
theorem Nv.same {H G : Hp} {v : V} {d : PyData} (h : Nv H v d) (s : Same H G) : Nv G v d := by
  cases h with
  | fl h => exact .fl h
  | tup h => exact .tup (s _ _ h)
theorem nv_inv {H : Hp} {v : V} {d : PyData} {lo hi : Int} (f : Nv H v d) (h : within d lo hi = true) : ∃ i, v = .int i ∧ d = .int i ∧ lo ≤ i ∧ i ≤ hi := by
  cases f with
  | fl f => exact within_inv f h
  | tup _ => cases h
def spN : Sp := fun vs H Q _ => ∃ (v : V) (d : PyData), vs = [v] ∧ Nv H v d ∧ Q (.bl (isNum d)) H
def spW : Sp := fun vs H Q _ => ∃ (v : V) (d : PyData) (lo hi : Int), vs = [v, .int lo, .int hi] ∧ Nv H v d ∧ Q (.bl (within d lo hi)) H
section
variable {P : Program} {K : PySem.W.Frag} {w : World} {base : Heap} {mg : Str → Option Value}
theorem scIsNumber : FnScope ["value"] ["value"] (defScope sIsNumber) := ⟨rfl, rfl, rfl, by decide +kernel, rfl, by decide +kernel, by decide +kernel⟩
theorem ok_number {f : Addr} {fd : FuncData} (F : Fun K "is_number" "is_number" sIsNumber f fd) (T : Cst mg) : FnOk P w K mg base CX0 1 f fd ["value"] spN := by
  refine F.ok scIsNumber (fun vs H Q E h => ?_) (fun cdv A outer s H vs Q E hr h => ?_)
  · obtain ⟨v, d, rfl, _⟩ := h
    rfl
  · obtain ⟨v, d, rfl, hd, q⟩ := h
    refine ⟨_, pss_one (ps_ret (pe_and (pe_callB call_isi (by rfl) T.isi (by decide +kernel) (pa_cons (pv 0) (pa_cons (pe_bltn (v := .ty "int") (by rfl) T.tint (by decide +kernel) rfl) pa_nil)))
      (pe_one (pe_not (pe_callB call_isi (by rfl) T.isi (by decide +kernel) (pa_cons (pv 0) (pa_cons (pe_bltn (v := .ty "bool") (by rfl) T.tbool (by decide +kernel) rfl) pa_nil))))))), ?_⟩
    cases hd with
    | tup h => exact ⟨_, rfl, .ref _, _, _, _, _, rfl, .ty _, .base (.tup h), (kit_ty (show kitB "tuple" "int" = some false from by decide +kernel)), _, rfl, iteF q⟩
    | fl hd =>
      refine ⟨_, rfl, v, _, _, _, _, rfl, .ty _, hd.ty, kit_int hd, _, rfl, ?_⟩
      refine ite2 (fun e => ?_) fun e => ?_
      · refine ⟨_, rfl, v, _, _, _, _, rfl, .ty _, hd.ty, kit_bool hd, _, rfl, ?_⟩
        cases hd <;> first | exact q | cases e
      · cases hd <;> first | exact q | exact absurd rfl e
theorem scIsWithin : FnScope ["value", "least", "most"] ["value", "least", "most"] (defScope sIsWithin) := ⟨rfl, rfl, rfl, by decide +kernel, rfl, by decide +kernel, by decide +kernel⟩
theorem ok_within {f : Addr} {fd : FuncData} (F : Fun K "is_within" "is_within" sIsWithin f fd) (D : Df P w K mg base 1 "is_number" ["value"] spN) : FnOk P w K mg base CX0 2 f fd ["value", "least", "most"] spW := by
  obtain ⟨fN, fdN, GN, mN, kN, bN⟩ := D.ex
  refine F.ok scIsWithin (fun vs H Q E h => ?_) (fun cdv A outer s H vs Q E hr h => ?_)
  · obtain ⟨v, d, lo, hi, rfl, _⟩ := h
    rfl
  · obtain ⟨v, d, lo, hi, rfl, hd, q⟩ := h
    refine ⟨_, pss_one (ps_ret (pe_and (pe_call GN hr (by rfl) mN kN bN .nil pass0 (pa_cons (pv 0) pa_nil)) (pe_one (pe_chain op_le op_le (pv 1) (pv 0) (pv 2))))), ?_⟩
    refine ⟨v, rfl, v, d, rfl, hd, ⟨_, rfl, ?_⟩⟩
    refine ite2 (fun e => ?_) fun e => ?_
    · cases hd with
      | tup h => cases e
      | fl hd =>
      cases hd with
      | int i =>
        refine ⟨_, rfl, _, rfl, _, _, rfl, rfl, _, rfl, ?_⟩; skip
        have q2 : Q (.bl (decide (lo ≤ i) && decide (i ≤ hi))) H := q
        refine ite2 (fun e => ?_) fun e => ?_
        · refine ⟨_, rfl, _, _, rfl, rfl, ?_⟩
          rw [show decide (lo ≤ i) = true from e, Bool.true_and] at q2
          exact q2
        · rw [show decide (lo ≤ i) = false from Bool.eq_false_iff.mpr e, Bool.false_and] at q2
          exact q2
      | non => cases e
      | bl b => cases e
      | str x => cases e
    · rw [within_no (Bool.eq_false_iff.mpr e)] at q
      exact q
end
/-- what the written part says of an error's class: C, called x, made by the def at fI -/
structure ErrT (K : PySem.W.Frag) (mg : Str → Option Value) (x : Str) (C fI : Addr) : Prop where
  ox : OexC K C
  gC : mg x = some (.ref C)
  iC : PySem.W.findIn K (.ref C) "__init__" = some (some (.ref fI))
  tI : PySem.W.typeIn K (.ref fI) = some (.type "function")
  no : PySem.W.findIn K (.ref C) "told" = some none
def spInit (K : PySem.W.Frag) : Sp := fun vs H Q _ => ∃ (a C : Addr) (y : V), vs = [.ref a, y] ∧ OexC K C ∧ PySem.W.findIn K (.ref C) "told" = some none ∧ H a = some (exo a C none) ∧ ∀ dx, H dx = none → dx ≠ a → Q .non (upd (upd H dx (exd dx [("told", y)])) a (exo a C (some dx)))
/-- how the class is made, as the raising defs see it -/
structure Mak (P : Program) (w : World) (K : PySem.W.Frag) (mg : Str → Option Value) (base : Heap) (x : Str) (C : Addr) : Prop where
  ex : ∃ (fI : Addr) (fd : FuncData), ErrT K mg x C fI ∧ FnOk P w K mg base CX0 1 fI fd ["self", "told"] (spInit K) ∧ Binds K fd ["self", "told"] []
/-- C(v) leaves -/
def Rais (C : Addr) (v : V) (H : Hp) (E : XK) : Prop := ∀ (d : Addr) (H' : Hp), Same H H' → H' d = some (.xd [("told", v)]) → E (.ref C) (some d) H'
theorem Rais.same {C : Addr} {v : V} {H G : Hp} {E : XK} (r : Rais C v H E) (s : Same H G) : Rais C v G E := fun d H' s' h => r d H' (s.trans s') h
/-- raise C(e), where e reads as v -/
theorem raised {K : PySem.W.Frag} {C : Addr} {v : V} {σ : L2.St} {H : Hp} {E : XK} {ta : TA} (ox : OexC K C) (no : PySem.W.findIn K (.ref C) "told" = some none) (h : ∀ k : List V → Hp → Prop, k [v] H → ta σ H k) (q : Rais C v H E) : tMkO C (spInit K) [] ta σ H E := by
  refine h _ ⟨by simp, fun a ha => ?_⟩
  refine ⟨a, C, v, rfl, ox, no, upd_same, fun dx hdx ne => ⟨rfl, dx, [(("told" : Str), v)], upd_same, ?_, ?_, ?_⟩⟩
  · rw [upd_ne ne, upd_same]
  · rw [upd_ne ne] at hdx
    exact hdx
  · have hdG : H dx = none := by
      rw [upd_ne ne] at hdx
      exact hdx
    refine q dx _ (fun b o hb => ?_) upd_same
    have n1 : b ≠ dx := ne_of_none hb hdG
    have n2 : b ≠ a := ne_of_none hb ha
    rw [upd_ne n1, del_ne n2, upd_ne n2, upd_ne n1, upd_ne n2]
    exact hb
theorem raised_v {K : PySem.W.Frag} {C : Addr} {v : V} {i : Nat} {σ : L2.St} {H : Hp} {E : XK} (ox : OexC K C) (no : PySem.W.findIn K (.ref C) "told" = some none) (hv : σ[i]? = some (some v)) (q : Rais C v H E) : tMkO C (spInit K) [] (tCons (tVar i) tNil) σ H E :=
  raised ox no (fun k hk => ⟨v, hv, hk⟩) q
theorem raised_c {K : PySem.W.Frag} {C : Addr} {v : V} {σ : L2.St} {H : Hp} {E : XK} (ox : OexC K C) (no : PySem.W.findIn K (.ref C) "told" = some none) (q : Rais C v H E) : tMkO C (spInit K) [] (tCons (tC v) tNil) σ H E :=
  raised ox no (fun k hk => hk) q
section
variable {P : Program} {K : PySem.W.Frag} {w : World} {base : Heap} {mg : Str → Option Value} {C C2 C3 : Addr}
theorem scInit8 : FnScope ["self", "told"] ["self", "told"] (defScope (inClass (top 8) 0)) := ⟨rfl, rfl, rfl, by decide +kernel, rfl, by decide +kernel, by decide +kernel⟩
theorem ok_init8 {f : Addr} {fd : FuncData} (F : Fun K "__init__" "NoCount.__init__" (inClass (top 8) 0) f fd) : FnOk P w K mg base CX0 1 f fd ["self", "told"] (spInit K) := by
  refine F.ok scInit8 (fun vs H Q E h => ?_) (fun cdv A outer s H vs Q E hr h => ?_)
  · obtain ⟨a, C, y, rfl, _⟩ := h
    rfl
  · obtain ⟨a, C, y, rfl, T, no, ha, q⟩ := h
    exact ⟨_, pss_one (ps_ost (pv 0) (pv 1)), y, rfl, .ref a, rfl, a, C, rfl, T, no, .inl ⟨ha, q⟩⟩
theorem scInit14 : FnScope ["self", "told"] ["self", "told"] (defScope (inClass (top 14) 0)) := ⟨rfl, rfl, rfl, by decide +kernel, rfl, by decide +kernel, by decide +kernel⟩
theorem ok_init14 {f : Addr} {fd : FuncData} (F : Fun K "__init__" "NoChances.__init__" (inClass (top 14) 0) f fd) : FnOk P w K mg base CX0 1 f fd ["self", "told"] (spInit K) := by
  refine F.ok scInit14 (fun vs H Q E h => ?_) (fun cdv A outer s H vs Q E hr h => ?_)
  · obtain ⟨a, C, y, rfl, _⟩ := h
    rfl
  · obtain ⟨a, C, y, rfl, T, no, ha, q⟩ := h
    exact ⟨_, pss_one (ps_ost (pv 0) (pv 1)), y, rfl, .ref a, rfl, a, C, rfl, T, no, .inl ⟨ha, q⟩⟩
theorem within_yes {i lo hi : Int} (a : lo ≤ i) (b : i ≤ hi) : within (.int i) lo hi = true := by
  show (decide (lo ≤ i) && decide (i ≤ hi)) = true
  rw [decide_eq_true a, decide_eq_true b]
  rfl
end
end Pl

namespace Pl
open L2 PySem PySem.Spec PyProof.Rows RZ
theorem same_up {p : Addr} {H : Hp} {o : HO} (f : H p = none) : Same H (L2.upd H p o) := fun b u e => (upd_ne (ne_of_none e f)).trans e
theorem Same.free' {H G : Hp} {p : Addr} (s : Same H G) (f : G p = none) : H p = none := s.free f
theorem take_next1 {α : Type} {xs : List α} {i : Nat} {x : α} (h : xs[i]? = some x) : xs.take (i + 1) = xs.take i ++ [x] := by
  rw [List.take_add_one, h]
  rfl
theorem zV_get {xs : Z} {i : Nat} {y : V} (h : (xs.map V.int)[i]? = some y) : ∃ x, xs[i]? = some x ∧ y = .int x := by
  rw [List.getElem?_map] at h
  cases e : xs[i]? with
  | none =>
    rw [e] at h
    cases h
  | some x =>
    rw [e] at h
    exact ⟨x, rfl, (Option.some.inj h).symm⟩
theorem flatZ (ys : Z) : (ys.map V.int).all flatV = true := by
  rw [List.all_eq_true]
  intro v hv
  obtain ⟨y, _, rfl⟩ := List.mem_map.mp hv; skip
  rfl
theorem inZ (x : Int) : ∀ ys : Z, inV (.int x) (ys.map V.int) = has ys x
  | [] => by simp [inV, has]
  | y :: ys => by
    have ih := inZ x ys
    unfold inV has at *
    rw [List.map_cons, List.any_cons, ih]
    have e : eqV (V.int y) (V.int x) = decide (y = x) := by
      show (y == x) = decide (y = x)
      by_cases h : y = x <;> simp [h]
    rw [e]
    by_cases h : y = x
    · subst h
      simp
    · by_cases h2 : x ∈ ys
      · simp [h, h2]
      · have h3 : ¬ x = y := fun z => h z.symm
        simp [h, h2, h3]
theorem walk_core {J : It} {n : Nat} {G : Hp → Prop} {Y : Nat → Hp → V → Hp → Prop} (w : L2.Walk J n G Y) {Body : (Hp → Prop) → V → Hp → Prop} {H0 : Hp} {Qd : Hp → Prop} (Pv : Nat → Hp → Prop) (h0 : Pv 0 H0) (hG : ∀ i H, i ≤ n → Pv i H → G H)
    (hs : ∀ i x H H', i < n → Pv i H → Y i H x H' → Body (Pv (i + 1)) x H') (hd : ∀ H, Pv n H → Qd H) :
    ∃ W : Nat → Nat → Hp → Prop, (∃ m, W 0 m H0) ∧ ∀ i m H, W i m H →
      (J.stop i H ∧ Qd H) ∨ (J.go i H ∧ ∃ Nx : Hp → Prop, (∀ H', Nx H' → ∃ m', m' < m ∧ W (i + 1) m' H') ∧ ∀ x H', J.yld i H x H' → Body Nx x H') := by
  refine ⟨fun i m H => m = n - i ∧ i ≤ n ∧ Pv i H, ⟨n, rfl, Nat.zero_le _, h0⟩, ?_⟩
  rintro i m H ⟨rfl, hi, p⟩
  have q := hG i H hi p
  by_cases hlt : i < n
  · exact .inr ⟨w.goes i H hlt q, Pv (i + 1), fun H' p' => ⟨n - (i + 1), Nat.sub_lt_sub_left hlt (Nat.lt_succ_self i), rfl, hlt, p'⟩, fun x H' y => hs i x H H' hlt p (w.yields i H x H' hlt q y)⟩
  · obtain rfl : i = n := by omega
    exact .inl ⟨w.stops H q, hd H p⟩; skip
theorem seq_by {t1 t2 : TS} {D : Ends} {σ : L2.St} {H : Hp} (Mid : L2.St → Hp → Prop) (h2 : ∀ σ' H', Mid σ' H' → t2 D σ' H') (h1 : (∀ σ' H', Mid σ' H' → t2 D σ' H') → t1 { D with nx := t2 D } σ H) : tSeq t1 t2 D σ H := h1 h2
theorem walk_zipT {K : PySem.W.Frag} {a b : Addr} {xs ys : List V} (h : ys.length ≤ xs.length) : L2.Walk (ItzT K a b) ys.length (fun H => SqT K H a xs ∧ SqT K H b ys) (YPair (fun i => xs[i]?) (fun i => ys[i]?)) := by
  refine ⟨fun i H hi q => ⟨xs, ys, xs[i]'(by omega), ys[i], q.1, q.2, by simp [show i < xs.length by omega], by simp [hi]⟩, fun H q => ⟨xs, ys, q.1, q.2, .inr (Nat.le_refl _)⟩, ?_⟩
  rintro i H v H' hi q ⟨T, x, y, h1, h2, h3, h4, h5⟩
  exact ⟨T, x, y, h1, h2, h3, h4 xs q.1, h5 ys q.2⟩
/-- a turn of [.. for .. in .. if p]: what it told so far lies at D -/
theorem lc_yes {H G : Hp} {D : Addr} {acc : List V} {v : V} {R : Hp → Prop} (hD : H D = none) (s : Same H G) (h : G D = some (.lst acc)) (l : acc.length ≤ 1000) (q : ∀ G', Same H G' → G' D = some (.lst (acc ++ [v])) → R G') : ∃ ac, G D = some (.lst ac) ∧ ac.length < sizeLine ∧ R (upd G D (.lst (ac ++ [v]))) :=
  ⟨_, h, small1000 l, q _ (fun b o hb => by
    rw [upd_ne (ne_of_none hb hD)]
    exact s b o hb) upd_same⟩
theorem sup {H G : Hp} {D : Addr} {o : HO} (hD : H D = none) (s : Same H G) : Same H (upd G D o) := fun b u hb => by
  rw [upd_ne (ne_of_none hb hD)]
  exact s b u hb
theorem noPart {σ : L2.St} {H : Hp} {Q : Option Int → Hp → Prop} (h : Q none H) : tNoPart σ H Q := h
theorem sl_any {K : PySem.W.Frag} {H : Hp} {a : Addr} {xs : List V} {lo hi : Option Int} {Q : VK} (h : H a = some (.tup xs)) (q : ∀ p H', Same H H' → H' p = some (.tup (cutV xs lo hi)) → Q (.ref p) H') : rSlA K (.ref a) lo hi H Q := by
  refine ⟨a, xs, rfl, SqT.of h, fun w => q a H (fun _ _ e => e) ?_, fun w p hp => q p _ (same_up hp) upd_same⟩
  unfold cutV
  rw [w.1, w.2, List.drop_zero, Nat.sub_zero, List.take_length]
  exact h
theorem cut_tail (xs : List V) : cutV xs (some 1) none = xs.drop 1 := by
  unfold cutV
  rw [HT.sIx_none, show HT.sIx xs.length 0 (some 1) = min 1 xs.length from HT.sIx_nat xs.length 0 1]
  by_cases h : xs = []
  · subst h
    rfl
  · have : 1 ≤ xs.length := by
      have := List.length_pos_iff.mpr h
      omega
    rw [Nat.min_eq_left this, List.take_of_length_le]
    rw [List.length_drop]
    exact Nat.le_refl _
theorem filt_snoc {α : Type} {xs : List α} {i : Nat} {x : α} (h : xs[i]? = some x) (p : α → Bool) : (xs.take (i + 1)).filter p = (xs.take i).filter p ++ (if p x = true then [x] else []) := by
  rw [take_next1 h, List.filter_append, List.filter_cons]
  by_cases e : p x = true
  · rw [if_pos e, if_pos e]
    rfl
  · rw [if_neg e, if_neg e]
    rfl
theorem filt_len {α : Type} (xs : List α) (i : Nat) (p : α → Bool) : ((xs.take i).filter p).length ≤ xs.length := Nat.le_trans (List.length_filter_le _ _) (by
  rw [List.length_take]
  exact Nat.min_le_right _ _)
inductive FlL : List V → List PyData → Prop
  | nil : FlL [] []
  | cons {v : V} {d : PyData} {vs : List V} {ds : List PyData} (a : Fl v d) (t : FlL vs ds) : FlL (v :: vs) (d :: ds)
theorem FlL.len : ∀ {vs : List V} {ds : List PyData}, FlL vs ds → vs.length = ds.length
  | _, _, .nil => rfl
  | _, _, .cons _ t => congrArg Nat.succ t.len
theorem FlL.at : ∀ {vs : List V} {ds : List PyData} {i : Nat} {v : V}, FlL vs ds → vs[i]? = some v → ∃ d, ds[i]? = some d ∧ Fl v d
  | _, _, _, _, .nil, e => absurd e (by simp)
  | _, _, 0, _, .cons a _, e => by simp at e; subst e; exact ⟨_, rfl, a⟩
  | _, _, i + 1, _, .cons _ t, e => by
    obtain ⟨d, h1, h2⟩ := FlL.at (i := i) t (by simpa using e)
    exact ⟨d, by simpa using h1, h2⟩
theorem FlL.ints : ∀ ns : Z, FlL (ns.map V.int) (ns.map PyData.int)
  | [] => .nil
  | n :: ns => .cons (.int _) (FlL.ints ns)
/-- what is handed in as a lot -/
inductive Tz (K : PySem.W.Frag) (H : Hp) : V → Option (List PyData) → Prop
  | no {v : V} {kd : String} (t : ∀ G, Same H G → TyX K G v (.type kd)) (nt : PySem.W.kitOne K (.type kd) (.type "tuple") = some false) : Tz K H v none
  | tup {a : Addr} {vs : List V} {ds : List PyData} (h : H a = some (.tup vs)) (m : FlL vs ds) (l : vs.length ≤ 100) : Tz K H (.ref a) (some ds)
theorem Tz.same {K : PySem.W.Frag} {H G : Hp} {v : V} {o : Option (List PyData)} (h : Tz K H v o) (s : Same H G) : Tz K G v o := by
  cases h with
  | no t nt => exact .no (fun F x => t F (s.trans x)) nt
  | tup h m l => exact .tup (s _ _ h) m l
theorem Tz.lot {K : PySem.W.Frag} {H : Hp} {a : Addr} {l : Z} (h : H a = some (.tup (l.map V.int))) (n : l.length ≤ 100) : Tz K H (.ref a) (some (l.map PyData.int)) := .tup h (FlL.ints l) (by rw [List.length_map]; exact n)
def toI : PyData → Int
  | .int i => i
  | _ => 0
def asc (ns : Z) : Bool := (List.range (ns.length - 1)).all fun j => decide (ns.getD j 0 < ns.getD (j + 1) 0)
def okT (n : Int) : Option (List PyData) → Bool
  | none => false
  | some ds => (ds.all fun d => within d 0 (n - 1)) && asc (ds.map toI)
theorem okT_lot {n : Int} {l : Z} (h : Lot n l) : okT n (some (l.map PyData.int)) = true := by
  unfold okT
  rw [Bool.and_eq_true]
  constructor
  · rw [List.all_eq_true]
    intro d hd
    obtain ⟨x, hx, rfl⟩ := List.mem_map.mp hd
    have := h.2 x hx
    exact within_yes this.1 (by omega)
  · rw [List.map_map, show (toI ∘ PyData.int) = id from rfl, List.map_id]
    unfold asc
    rw [List.all_eq_true]
    intro j hj
    rw [List.mem_range] at hj
    have h1 : j < l.length := by omega
    have h2 : j + 1 < l.length := by omega
    rw [List.getD_eq_getElem?_getD, List.getD_eq_getElem?_getD, List.getElem?_eq_getElem h1, List.getElem?_eq_getElem h2]
    exact decide_eq_true (List.pairwise_iff_getElem.mp h.1 j (j + 1) h1 h2 (by omega))
end Pl

namespace Pl
open L2 PySem PySem.Spec PyProof.Rows RZ
abbrev TbL := List (Addr × Str)
/-- a list of lots -/
def Lots (H : Hp) (p : Addr) (L : List AT) : Prop := H p = some (.lst (refs L)) ∧ ∀ q ∈ L, H q.1 = some (.tup (q.2.map V.int))
theorem Lots.same {H G : Hp} {p : Addr} {L : List AT} (h : Lots H p L) (s : Same H G) : Lots G p L := ⟨s _ _ h.1, fun q hq => s _ _ (h.2 q hq)⟩
theorem Lots.ext {H G : Hp} {p : Addr} {L : List AT} (h : Lots H p L) (s : LamX.ExtN H G) : Lots G p L := ⟨s _ _ h.1 (fun _ z => by cases z), fun q hq => s _ _ (h.2 q hq) (fun _ z => by cases z)⟩
theorem refs_len (L : List AT) : (refs L).length = L.length := List.length_map _
theorem refs_get {L : List AT} {i : Nat} {v : V} (h : (refs L)[i]? = some v) : ∃ p, L[i]? = some p ∧ v = .ref p.1 := by
  unfold refs at h
  rw [List.getElem?_map] at h
  cases e : L[i]? with
  | none =>
    rw [e] at h
    cases h
  | some p =>
    rw [e] at h
    exact ⟨p, rfl, (Option.some.inj h).symm⟩
theorem refs_app (L M : List AT) : refs (L ++ M) = refs L ++ refs M := List.map_append
theorem cat_any {K : PySem.W.Frag} {H : Hp} {a b : Addr} {xs ys : List V} {Q : VK} (ha : H a = some (.tup xs)) (hb : H b = some (.tup ys)) (l : xs.length + ys.length ≤ 1000) (q : ∀ p H', Same H H' → H' p = some (.tup (xs ++ ys)) → Q (.ref p) H') : rCatA K (.ref a) (.ref b) H Q := by
  refine ⟨a, b, xs, ys, rfl, rfl, SqT.of ha, SqT.of hb, Nat.le_of_lt (small1000 l), fun e => q b H (fun _ _ e => e) ?_, fun _ e => q a H (fun _ _ e => e) ?_, fun _ _ p hp => q p _ (same_up hp) upd_same⟩
  · rw [e, List.nil_append]
    exact hb
  · rw [e, List.append_nil]
    exact ha
theorem leK_eq (a b : AT) : leK a b = leZ a.2 b.2 := rfl
theorem sort_parts {L : List AT} {u : Z} (h : L.map (·.2) = subs u) : (L.mergeSort leK).map (·.2) = parts u := by
  rw [List.map_mergeSort (s := leZ) fun a _ b _ => leK_eq a b, h]
  rfl
/-- as Fun.ok, of a def whose code object is known -/
theorem okC1 {P : Program} {K : PySem.W.Frag} {w : World} {base : Heap} {mg : Str → Option Value} {x qual : Str} {st : Stmt} {f c : Addr} {fd : FuncData} {N ps : List Str} {k : Nat} {sp : Sp} (F : FunC K x qual st f c fd) (S : FnScope N ps (defScope st)) (len : ∀ vs H Q E, sp vs H Q E → vs.length = ps.length)
    (walk : ∀ (A : Around) (outer : List Env) (s : Shared) (H : Hp) (vs : List V) (Q : VK) (E : XK), Room k (A.deeper (envOfC qual (defScope st) s.heap.objs.size f (.ref c))) → sp vs H Q E →
      ∃ t, PSs (cxOf CX0 P w K mg base N qual (defScope st) f (.ref c) A outer s H E).nox (defBody st) t ∧ t { nx := fun _ H' => Q .non H', rt := Q } (start N vs) H) : FnOk P w K mg base CX0 (k + 1) f fd ps sp := by
  obtain ⟨oc, od, kV, doc, pm, an, ct, osl, rfl, lk, hcd⟩ := F.ex
  refine fn_of lk hcd S len fun A outer s H vs Q E hr hsp => ?_; skip
  obtain ⟨t, h, q⟩ := walk A outer s H vs Q E hr hsp
  exact ⟨t, h.nox, q⟩
/-- all lots within one are told, as a list or a tuple it is handed in -/
def spParts (Tb : TbL) : Sp := fun vs H Q _ => ∃ (a : Addr) (u : Z), vs = [.ref a] ∧ (H a = some (.tup (u.map V.int)) ∨ H a = some (.lst (u.map V.int))) ∧ u.length ≤ 5 ∧ LamX.Tabs Tb H ∧ ∀ p L G, LamX.ExtN H G → LamX.Tabs Tb G → Lots G p L → L.map (·.2) = parts u → Q (.ref p) G
abbrev lamA : Str := (envOfC "all_lots" (defScope sAllLots) 0 0 (.ref 0)).qual ++ "<lambda>"
abbrev lamH : Str := (envOfC "_heaviest" (defScope sHeavy) 0 0 (.ref 0)).qual ++ "<lambda>"
abbrev lamR : Str := (envOfC "law" (defScope sLaw) 0 0 (.ref 0)).qual ++ "<lambda>"
theorem pow5 {i : Nat} (h : i ≤ 5) : 2 ^ i ≤ 32 := Nat.pow_le_pow_right (by decide) h
section
variable {P : Program} {K : PySem.W.Frag} {w : World} {base : Heap} {mg : Str → Option Value} {c Pt : Addr} {Tb : TbL}
abbrev N_alots : List Str := ["copies", "lots", "copy", "lot"]
theorem sc_alots : FnScope N_alots ["copies"] (defScope sAllLots) := ⟨rfl, rfl, rfl, by decide +kernel, rfl, by decide +kernel, by decide +kernel⟩
theorem ok_alots {f : Addr} {fd : FuncData} (F : FunC K "all_lots" "all_lots" sAllLots f c fd) (T : Cst mg) (TB : LamX.TabB base mg c Pt) (hT : (Pt, lamA) ∈ Tb) (hT1 : ∀ p ∈ Tb, p.1 = Pt → p.2 = lamA) : FnOk P w K mg base CX0 3 f fd ["copies"] (spParts Tb) := by
  refine okC1 F sc_alots (fun vs H Q E h => ?_) (fun A outer s0 H vs Q E hr h => ?_)
  · obtain ⟨a, u, rfl, _⟩ := h
    rfl
  · obtain ⟨a, u, rfl, ha, hl, hTb, q⟩ := h
    have it : ∃ (wi : TI) (J : It), PI (cxOf CX0 P w K mg base N_alots "all_lots" (defScope sAllLots) f (.ref c) A outer s0 H E).nox (match defBody sAllLots with
        | [_, .For tg _ _ _ _, _] => tg
        | _ => .Constant .none 0 ⟨0, 0, 0, 0⟩) (match defBody sAllLots with
        | [_, .For _ it _ _ _, _] => it
        | _ => .Constant .none 0 ⟨0, 0, 0, 0⟩) wi ∧ (∀ (σ : L2.St) (G : Hp) R, σ[0]? = some (some (.ref a)) → Same H G → R J G → wi σ G R) ∧ L2.Walk J u.length (fun G => Same H G) (YAt (u.map V.int)) := by
      rcases ha with ha | ha
      · refine ⟨_, Itt K a, pi_tup (pv 0), fun σ G R hσ sG r => ⟨_, hσ, a, rfl, ⟨_, SqT.of (sG _ _ ha)⟩, r⟩, ?_⟩
        have := walk_tup (K := K) (a := a) (xs := u.map V.int)
        rw [show (u.map V.int).length = u.length from List.length_map _] at this
        exact this.mono (fun G sG => SqT.of (sG _ _ ha)) fun _ _ _ _ _ _ y => y
      · refine ⟨_, Itl K a, pi_list (pv 0), fun σ G R hσ sG r => ⟨_, hσ, a, rfl, ⟨_, SqL.of (sG _ _ ha)⟩, r⟩, ?_⟩
        have := walk_list (K := K) (a := a) (xs := u.map V.int)
        rw [show (u.map V.int).length = u.length from List.length_map _] at this
        exact this.mono (fun G sG => SqL.of (sG _ _ ha)) fun _ _ _ _ _ _ y => y
    obtain ⟨wi, J, hit, hwi, hw⟩ := it
    refine ⟨_, pss_cons (ps_set (i := 1) sc_alots.nd rfl (Or.inl rfl) (pe_lst (pa_cons (pe_tup pa_nil) pa_nil)))
      (pss_cons (ps_for PassesOwn.never rfl hit (pg_name (i := 2) sc_alots.nd rfl (Or.inr rfl))
        (pss_one (ps_set (i := 1) sc_alots.nd rfl (Or.inl rfl) (pe_op op_cat (pv 1) (pe_lc (own := [("lot", 3)]) (g := gName 3) (tt := tYes) rfl sc_alots.nd (pi_list (pv 1)) (blkOk_by (own := [("lot", 3)]) (N := N_alots) (sc := defScope sAllLots) (by decide +kernel))
          (fun _ _ _ _ _ => pg_name (i := 3) sc_alots.nd rfl (Or.inl rfl)) (fun _ _ _ _ _ => pts_nil) (fun _ _ _ _ _ => pe_op (show OpR _ (binaryOp .Add) (rCatA K) from op_catA) (pv 3) (pe_tup (pa_cons (pv 2) pa_nil))))))))
      (pss_one (ps_ret (pe_sortLot (x := "lot") (c := c) (P := Pt) ⟨rfl, rfl, rfl, rfl, fun _ _ _ _ _ _ => rfl, ⟨_, _, _, _, _, _, rfl⟩, by decide, by decide⟩ (by rfl) T.srt T.len (pv 1) TB hT hT1 rfl (hr.mono (by decide)))))), ?_⟩
    refine ⟨by show 0 ≤ sizeLine; decide, fun t0 ht0 => ⟨by show 1 ≤ sizeLine; decide, fun p0 hp0 => ?_⟩⟩
    have sA : Same H (upd H t0 (.tup [])) := same_up ht0
    have fA : upd H t0 (.tup []) t0 = some (.tup []) := upd_same
    generalize upd H t0 (.tup []) = G0 at sA fA hp0 ⊢
    have sB : Same G0 (upd G0 p0 (.lst [.ref t0])) := same_up hp0
    have hp : upd G0 p0 (.lst [.ref t0]) p0 = some (.lst [.ref t0]) := upd_same
    have f0 := sB _ _ fA
    have s0 := sA.trans sB
    generalize upd G0 p0 (.lst [.ref t0]) = G1 at s0 hp f0 ⊢
    refine hwi _ _ _ rfl s0 ?_
    refine for_it hw (fun i σ G => ∃ d L x2, σ = [some (.ref a), some (.ref d), x2, none] ∧ Same H G ∧ Lots G d L ∧ L.map (·.2) = subs (u.take i))
      ⟨p0, [(t0, [])], _, rfl, s0, ⟨hp, fun q hq => by
        rw [List.mem_singleton] at hq
        rw [hq]
        exact f0⟩, rfl⟩ (fun i σ G _ h => by
        obtain ⟨_, _, _, _, h, _⟩ := h
        exact h) ?_ ?_
    · rintro i y σ G G' hi ⟨d, L, x2, rfl, s1, hL, eL⟩ ⟨rfl, hy⟩
      obtain ⟨x, hx, rfl⟩ := zV_get hy
      have lL : L.length ≤ 32 := by
        have e := congrArg List.length eL
        rw [List.length_map, subs_len, List.length_take] at e
        rw [e]
        exact pow5 (by omega)
      have i5 : i < u.length := (List.getElem?_eq_some_iff.mp hx).1
      have lq : ∀ q ∈ L, q.2.length ≤ 5 := fun q hq => by
        have m : q.2 ∈ subs (u.take i) := eL ▸ List.mem_map.mpr ⟨q, hq, rfl⟩
        have := (mem_subs.mp m).length_le
        rw [List.length_take] at this
        omega
      refine ⟨_, rfl, _, rfl, d, rfl, ⟨_, SqL.of hL.1⟩, fun D hD => ?_⟩
      refine walk_core (walk_list (K := K) (a := d) (xs := refs L)) (fun j F => ∃ M : List AT, Same G' F ∧ Lots F D M ∧ M.map (·.2) = ((L.take j).map (·.2)).map (· ++ [x])) ⟨[], same_up hD, ⟨upd_same, fun q hq => by cases hq⟩, by rw [List.take_zero]; rfl⟩ (fun _ _ _ h => by
        obtain ⟨_, h, _⟩ := h
        exact SqL.of (h _ _ hL.1)) ?_ ?_
      · rintro j y F F' hj ⟨M, s2, hM, eM⟩ ⟨rfl, hy⟩
        obtain ⟨r, hr', rfl⟩ := refs_get hy
        have rL := List.mem_of_getElem? hr'
        have h5 := lq r rL
        refine ⟨rfl, _, rfl, _, rfl, by show 1 ≤ sizeLine; decide, fun t1 ht1 => ?_⟩
        have s3 := same_up (o := .tup [.int x]) ht1
        have f3 : upd F' t1 (.tup [.int x]) t1 = some (.tup [.int x]) := upd_same
        refine cat_any (s3 _ _ (s2 _ _ (hL.2 r rL))) f3 (by rw [List.length_map]; show r.2.length + 1 ≤ 1000; omega) fun p F2 s4 hp2 => ?_
        have s34 := s3.trans s4
        refine ⟨_, s34 _ _ hM.1, ?_, M ++ [(p, r.2 ++ [x])], sup hD (s2.trans s34), ⟨?_, fun q hq => ?_⟩, ?_⟩
        · have e := congrArg List.length eM
          rw [List.length_map, List.length_map, List.length_map, List.length_take] at e
          exact small1000 (by rw [refs_len]; omega)
        · rw [upd_same, refs_app]
          rfl
        · have nD : ∀ b o, F2 b = some o → (∀ ys, o ≠ .lst ys) → b ≠ D := fun b o e n z => by
            rw [z, s34 _ _ hM.1] at e
            exact n _ (Option.some.inj e).symm
          rcases List.mem_append.mp hq with h | h
          · have e := s34 _ _ (hM.2 q h)
            rw [upd_ne (nD _ _ e fun _ z => by cases z)]
            exact e
          · rw [List.mem_singleton] at h
            subst h
            rw [upd_ne (nD _ _ hp2 fun _ z => by cases z), List.map_append]
            exact hp2
        · rw [List.map_append, eM, take_next1 hr', List.map_append, List.map_append]
          rfl
      · rintro F ⟨M, s2, hM, eM⟩
        rw [refs_len, List.take_length] at eM
        have lM : M.length = L.length := by
          have e := congrArg List.length eM
          simpa using e
        have hL2 := hL.same s2
        refine ⟨d, D, _, _, rfl, rfl, hL2.1, hM.1, Nat.le_of_lt (small1000 (by rw [refs_len, refs_len]; omega)), fun p2 hp2 => ?_⟩
        have s5 := same_up (o := .lst (refs L ++ refs M)) hp2
        refine ⟨p2, L ++ M, _, rfl, (s1.trans s2).trans s5, ⟨by rw [upd_same, refs_app], fun q hq => ?_⟩, ?_⟩
        · rcases List.mem_append.mp hq with h | h
          · exact s5 _ _ (hL2.2 q h)
          · exact s5 _ _ (hM.2 q h)
        · rw [List.map_append, eM, take_next1 hx, subs_snoc, eL]
          rfl
    · rintro σ G ⟨d, L, x2, rfl, s1, hL, eL⟩
      rw [List.take_length] at eL
      have lL : L.length ≤ 32 := by
        have e := congrArg List.length eL
        rw [List.length_map, subs_len] at e
        rw [e]
        exact pow5 hl
      refine ⟨_, rfl, hTb.ext s1, d, L, rfl, hL.1, hL.2, by omega, fun q hq => ?_, fun H2 p2 eN T2 hp2 => ?_⟩
      · have m : q.2 ∈ subs u := eL ▸ List.mem_map.mpr ⟨q, hq, rfl⟩
        have := (mem_subs.mp m).length_le
        omega
      · have s5 := same_up (o := .lst (refs (L.mergeSort leK))) hp2
        refine q p2 (L.mergeSort leK) _ (((LamX.ExtN.of s1).trans eN).trans (LamX.ExtN.of s5)) (T2.ext s5) ⟨upd_same, fun r hr2 => ?_⟩ (sort_parts eL)
        exact s5 _ _ (eN _ _ (hL.2 r ((List.mergeSort_perm L leK).mem_iff.mp hr2)) fun _ z => by cases z)
end
end Pl

namespace Pl
open L2 PySem PySem.Spec PyProof.Rows RZ
theorem intEq (x y : Int) : (decide (V.int x = V.int y)) = decide (x = y) := by
  by_cases h : x = y
  · subst h; simp
  · rw [decide_eq_false h, decide_eq_false fun z => h (by injection z)]
theorem dp_Z {K : PySem.W.Frag} {H : Hp} {a : Addr} {l : Z} (h : H a = some (.tup (l.map V.int))) : Dp K H (.ref a) (datZ l) := by
  refine .tup (SqT.of h) ?_
  clear h
  induction l with
  | nil => exact .nil
  | cons x l ih => exact .cons (.int x) ih
theorem dp_Zs {K : PySem.W.Frag} {H : Hp} {p : Addr} {L : List AT} (h : Lots H p L) : Dp K H (.ref p) (datZs (L.map (·.2))) := by
  refine .lst (SqL.of h.1) ?_
  have g := h.2
  clear h
  induction L with
  | nil => exact .nil
  | cons q L ih => exact .cons (dp_Z (g q List.mem_cons_self)) (ih fun r hr => g r (List.mem_cons_of_mem _ hr))
def rLenQ (K : PySem.W.Frag) : List V → Hp → VK → Prop := fun xs H Q => ∃ p ys, xs = [V.ref p] ∧ (SqL K H p ys ∨ SqT K H p ys) ∧ Q (V.int (ys.length : Nat)) H
theorem lots_but {G : Hp} {l p : Addr} {L : List AT} {xs ys : List V} (hL : Lots G p L) (h : G l = some (.lst xs)) (n : p ≠ l) : Lots (upd G l (.lst ys)) p L := by
  refine ⟨(upd_ne n).trans hL.1, fun q hq => ?_⟩
  have e := hL.2 q hq
  rw [upd_ne fun z => by rw [z, h] at e; cases e]
  exact e
theorem tup_but {G : Hp} {l b : Addr} {zs xs ys : List V} (e : G b = some (.tup zs)) (h : G l = some (.lst xs)) : upd G l (.lst ys) b = some (.tup zs) := by
  rw [upd_ne fun z => by rw [z, h] at e; cases e]
  exact e
/-- one more at the list's end -/
theorem lots_app {G : Hp} {l : Addr} {L : List AT} {q : AT} (hL : Lots G l L) (hq : G q.1 = some (.tup (q.2.map V.int))) : Lots (upd G l (.lst (refs L ++ [.ref q.1]))) l (L ++ [q]) := by
  refine ⟨by rw [upd_same, refs_app]; rfl, fun r hr => ?_⟩
  rcases List.mem_append.mp hr with h | h
  · exact tup_but (hL.2 r h) hL.1
  · rw [List.mem_singleton] at h
    subst h
    exact tup_but hq hL.1
theorem ext_upd {H G : Hp} {l : Addr} {o : HO} (e : LamX.ExtN H G) (n : ∀ b u, H b = some u → (∀ ps, u ≠ .tbl ps) → b ≠ l) : LamX.ExtN H (upd G l o) := fun b u hb hn => (upd_ne (n b u hb hn)).trans (e b u hb hn)
def rTupOf (K : PySem.W.Frag) : List V → Hp → VK → Prop := fun xs H Q => ∃ p ys, xs = [.ref p] ∧ ((SqL K H p ys ∧ ∀ l, H l = none → Q (.ref l) (upd H l (.tup ys))) ∨ (SqT K H p ys ∧ Q (.ref p) H))
theorem pi_or {X : Cx} {tg e : Expr} {w1 w2 : TI} (h1 : PI X tg e w1) (h2 : PI X tg e w2) : PI X tg e (fun σ H R => w1 σ H R ∨ w2 σ H R) := ⟨fun pins s σ H R I h => h.elim (fun g => h1.run pins s σ H R I g) (fun g => h2.run pins s σ H R I g)⟩
def rgZ (c : Int) : Z := (List.range c.toNat).map fun i => (0 : Int) + (i : Nat)
theorem rgV_rgZ (c : Int) : rgV 0 c = (rgZ c).map V.int := by
  unfold rgV rgZ
  rw [List.map_map, Int.sub_zero]
  rfl
theorem rgZ_lot (c : Int) : Lot c (rgZ c) := by
  constructor
  · unfold rgZ
    rw [List.pairwise_map]
    refine List.pairwise_lt_range.imp fun h => ?_
    omega
  · intro x hx
    obtain ⟨i, hi, rfl⟩ := List.mem_map.mp hx
    rw [List.mem_range] at hi
    omega
theorem rgZ_len (c : Int) : (rgZ c).length = c.toNat := by
  unfold rgZ
  rw [List.length_map, List.length_range]; skip
theorem rgZ_get {c : Int} {i : Nat} (h : i < c.toNat) : (rgZ c)[i]? = some (0 + (i : Int)) := by
  unfold rgZ
  rw [List.getElem?_map, List.getElem?_range h]
  rfl
theorem tabs_upd {Tb : TbL} {G : Hp} {l : Addr} {xs ys : List V} (t : LamX.Tabs Tb G) (h : G l = some (.lst xs)) : LamX.Tabs Tb (upd G l (.lst ys)) := by
  intro p hp
  obtain ⟨ps, h1, h2, h3⟩ := t p hp
  have n1 : p.1 ≠ l := fun e => by
    rw [e, h] at h1
    cases h1
  refine ⟨ps, (upd_ne n1).trans h1, h2, fun pos cv hc => ?_⟩
  obtain ⟨c, e1, e2⟩ := h3 pos cv hc; skip
  have n2 : c ≠ l := fun e => by
    rw [e, h] at e2
    cases e2
  exact ⟨c, e1, (upd_ne n2).trans e2⟩

/-! ### sum(a tuple), sorted(a list of tuples) told in full -/
section
variable {X : Cx}
def rSumT (K : PySem.W.Frag) : List V → Hp → VK → Prop := fun vs H Q => ∃ (a : Addr) (ns : List Int), vs = [V.ref a] ∧ SqT K H a (ns.map V.int) ∧ Q (.int ns.sum) H
theorem cr_sumT (hc : X.calm = true) : CallR X (.builtin "sum") (rSumT X.K) := by
  intro pins s σ H vs us Q I r h; skip
  obtain ⟨a, ns, rfl, hs, q⟩ := h; skip
  obtain ⟨its, rv, hl, _⟩ := I.tuple hs
  rw [Vals.ref1 r]
  have hi := rv.ints
  obtain ⟨xs, e⟩ := hi.allInts.items; skip
  have hn : numsOf (intItems xs).toList = ns := by rw [← e]; exact hi.numsOf; skip
  rw [nums_intItems] at hn
  obtain ⟨o, e1, e2, k, e3⟩ := hl
  rw [e] at e3
  refine PySem.W.ktm_sumG (I.ok.hd hc) ⟨o, e1, e2, k, e3⟩ fun h' tk t' hk => ?_
  refine ⟨.int _, H, I.kept hk, ⟨_, rfl⟩, ?_⟩
  rw [preSum_eq, List.take_of_length_le (by simp), hn]; skip
  exact q
def rSortX (K : PySem.W.Frag) : List V → Hp → VK → Prop := fun vs H Q => ∃ (a : Addr) (L : List AT), vs = [V.ref a] ∧ SqL K H a (refs L) ∧ (∀ p ∈ L, SqT K H p.1 (p.2.map V.int)) ∧ ∀ (p : Addr), H p = none → Q (.ref p) (upd H p (.lst (refs (L.mergeSort (PySem.W.dataLe false encT)))))
theorem cr_sortX (hu : X.A.units + 64 < cLine) : CallR X (.builtin "sorted") (rSortX X.K) := by
  intro pins s σ H vs us Q I r h; skip
  obtain ⟨a, L, rfl, ha, hk, q⟩ := h
  rw [Vals.ref1 r]
  obtain ⟨its, rv, pl, hz⟩ := I.list ha
  have e := refs_of_vals rv
  subst e
  have hz' : L.length ≤ sizeLine := by
    have z := hz
    unfold refs at z
    rw [List.length_map] at z
    exact z
  refine sorted_list (prog := X.prog) (w := X.w) (L := L) pl.isList (fun p hp => I.isT (hk p hp)) hz' (by omega) fun out eo => ?_
  obtain ⟨ep, he⟩ := PyProof.Rows.sortedAll_at s.heap (L.map fun p => Value.ref p.1) (List.toArray out)
  have pm := List.mergeSort_perm L (PySem.W.dataLe false encT)
  have hlen : (refs (L.mergeSort (PySem.W.dataLe false encT))).length ≤ sizeLine := by
    unfold refs
    rw [List.length_map, pm.length_eq]
    exact hz'
  exact ⟨.ref _, upd H (s.heap.objs.size + 1) (.lst (refs (L.mergeSort (PySem.W.dataLe false encT)))), I.laid (t' := s.toks) (fun _ _ => PyProof.Rows.sortedAll_old) (Nat.le_succ _) ⟨hlen, out, ep, by rw [eo]; exact vals_of_refs _, he⟩, rfl, q _ (I.hok.fresh (Nat.le_succ _))⟩
end
theorem sort_E (L : List AT) : (L.mergeSort (PySem.W.dataLe false encT)).map (·.2) = (L.map (·.2)).mergeSort leE := by
  rw [List.map_mergeSort (s := leE) fun a _ b _ => show PySem.W.dataLe false encT a b = leE a.2 b.2 from rfl]
/-! ### votes and needs -/
/-- ints, as a list or a tuple -/
def Ints (H : Hp) (b : Addr) (u : Z) : Prop := H b = some (.lst (u.map V.int)) ∨ H b = some (.tup (u.map V.int))
theorem Ints.same {H G : Hp} {b : Addr} {u : Z} (h : Ints H b u) (s : Same H G) : Ints G b u := h.imp (s _ _) (s _ _)
/-- votes -/
structure Vok (v : Z) : Prop where
  len : v.length ≤ 5
  one : 1 ≤ v.length
  rng : ∀ x ∈ v, 0 ≤ x ∧ x ≤ 9
theorem Vok.nn {v : Z} (h : Vok v) : ∀ x ∈ v, 0 ≤ x := fun x hx => (h.rng x hx).1
theorem all_ints : ∀ {vs : List V} {ds : List PyData} {lo hi : Int}, FlL vs ds → (ds.all fun d => within d lo hi) = true → vs = (ds.map toI).map V.int
  | _, _, _, _, .nil, _ => rfl
  | _, _, _, _, .cons f t, e => by
    rw [List.all_cons, Bool.and_eq_true] at e
    obtain ⟨i, rfl, rfl, _⟩ := within_inv f e.1
    rw [List.map_cons, List.map_cons, ← all_ints t e.2]
    rfl
def spCkU (CC : Addr) : Sp := fun vs H Q E => ∃ (v : V) (d : PyData) (n : Int), vs = [v, .int n] ∧ Nv H v d ∧ (within d 0 n = false → Rais CC v H E) ∧ (within d 0 n = true → Q .non H)
def spVof : Sp := fun vs H Q _ => ∃ (a b : Addr) (v l : Z), vs = [.ref a, .ref b] ∧ H a = some (.tup (v.map V.int)) ∧ Ints H b l ∧ (∀ x ∈ l, 0 ≤ x ∧ x < v.length) ∧ l.length ≤ 100 ∧ ∀ G, Same H G → Q (.int (vsum v l)) G
def spLotsOf (Tb : TbL) : Sp := fun vs H Q _ => ∃ (n : Int), vs = [.int n] ∧ 0 ≤ n ∧ n ≤ 5 ∧ LamX.Tabs Tb H ∧ ∀ p L G, LamX.ExtN H G → LamX.Tabs Tb G → Lots G p L → L.map (·.2) = parts (rgZ n) → Q (.ref p) G
abbrev nIV : List Str := ["value", "vote"]
abbrev nVO : List Str := ["votes", "lot", "copy"]
section
variable {P : Program} {K : PySem.W.Frag} {w : World} {base : Heap} {mg : Str → Option Value} {CV CN CC : Addr} {Tb : TbL}
theorem scCkU : FnScope ["unruly", "count"] ["unruly", "count"] (defScope sCkUnruly) := ⟨rfl, rfl, rfl, by decide +kernel, rfl, by decide +kernel, by decide +kernel⟩
theorem ok_cku {f : Addr} {fd : FuncData} (F : Fun K "check_unruly" "check_unruly" sCkUnruly f fd) (M : Mak P w K mg base "NoCount" CC) (D1 : Df P w K mg base 2 "is_within" ["value", "least", "most"] spW) : FnOk P w K mg base (L2.CX P w) 3 f fd ["unruly", "count"] (spCkU CC) := by
  obtain ⟨e1, fd1, G1, m1, k1, b1⟩ := D1.ex
  obtain ⟨fI, fdI, TE, GI, bI⟩ := M.ex
  refine F.okX scCkU (fun vs H Q E h => ?_) (fun cdv A outer s H vs Q E hr h => ?_)
  · obtain ⟨v, d, n, rfl, _⟩ := h
    rfl
  · obtain ⟨v, d, n, rfl, hd, q1, q2⟩ := h
    refine ⟨_, pss_one (ps_if (pt_not (pt_val (pe_call G1 hr (by rfl) m1 k1 b1 .nil pass0 (pa_cons (pv 0) (pa_cons pe_int (pa_cons (pv 1) pa_nil))))))
      (pss_one (ps_raise rfl (takes_of rfl rfl rfl rfl) (pmk_oex TE.ox TE.iC TE.tI GI (hr.mono (by decide)) bI .nil pass0 (by rfl) TE.gC (pa_cons (pv 0) pa_nil)))) pss_nil), ?_⟩
    refine ⟨v, rfl, _, rfl, v, d, 0, n, rfl, hd, ⟨_, rfl, ?_⟩⟩
    refine ite2 (fun e => raised_v TE.ox TE.no rfl (q1 (by simpa using e))) fun e => q2 (by simpa using e)
theorem scVof : FnScope nVO ["votes", "lot"] (defScope sVotesOf) := ⟨rfl, rfl, rfl, by decide +kernel, rfl, by decide +kernel, by decide +kernel⟩
theorem ok_vof {f : Addr} {fd : FuncData} (F : Fun K "votes_of" "votes_of" sVotesOf f fd) (T : Cst mg) : FnOk P w K mg base CX0 1 f fd ["votes", "lot"] spVof := by
  refine F.ok scVof (fun vs H Q E h => ?_) (fun cdv A outer s0 H vs Q E hr h => ?_)
  · obtain ⟨a, b, v, l, rfl, _⟩ := h
    rfl
  · obtain ⟨a, b, v, l, rfl, ha, hb, rn, ll, q⟩ := h
    refine ⟨_, pss_one (ps_ret (pe_callB (cr_sum rfl) (by rfl) T.sum_ (by decide +kernel) (pa_cons (pe_lc (own := [("copy", 2)]) (g := gName 2) (tt := tYes) rfl scVof.nd (pi_or (pi_list (pv 1)) (pi_tup (pv 1))) (blkOk_by (own := [("copy", 2)]) (N := nVO) (sc := defScope sVotesOf) (by decide +kernel))
          (fun _ _ _ _ _ => pg_name (i := 2) scVof.nd rfl (Or.inl rfl)) (fun _ _ _ _ _ => pts_nil) (fun _ _ _ _ _ => pe_ix (show IxR _ (rIxT K) from ix_tup) (pv 0) (pv 2) (fun _ _ => rfl))) pa_nil))), ?_⟩
    rcases hb with hb | hb
    · refine .inl ⟨_, rfl, b, rfl, ⟨_, SqL.of hb⟩, fun D hD => ?_⟩
      refine walk_core (walk_list (K := K) (a := b) (xs := l.map V.int)) (fun i G => Same H G ∧ G D = some (.lst (((l.take i).map (vt v)).map V.int))) ⟨same_up hD, upd_same⟩ (fun _ _ _ g => SqL.of (g.1 _ _ hb)) ?_ ?_
      · rintro i y G G' hi ⟨s1, hD1⟩ ⟨rfl, hy⟩
        obtain ⟨x, hx, rfl⟩ := zV_get hy
        have hr := rn x (List.mem_of_getElem? hx)
        obtain ⟨z, ez⟩ : ∃ z, v[x.toNat]? = some z := ⟨_, List.getElem?_eq_getElem (by omega)⟩
        have ev : vt v x = z := by
          unfold vt
          rw [List.getD_eq_getElem?_getD, ez]
          rfl
        refine ⟨rfl, _, rfl, _, rfl, a, _, x, .int z, rfl, rfl, SqT.of (s1 _ _ ha), ?_, ?_⟩
        · obtain ⟨j, rfl⟩ : ∃ j : Nat, x = j := ⟨x.toNat, by omega⟩
          exact atI_nat (by rw [List.getElem?_map, show v[j]? = some z from ez]; rfl)
        · refine ⟨_, hD1, small1000 (by rw [List.length_map, List.length_map, List.length_take]; omega), sup hD s1, ?_⟩
          rw [upd_same, take_next1 hx, List.map_append, List.map_append, List.map_singleton, List.map_singleton, ev]
      · rintro G ⟨s1, hD1⟩
        rw [List.length_map, List.take_length] at hD1
        exact ⟨D, _, rfl, SqL.of hD1, q G s1⟩
    · refine .inr ⟨_, rfl, b, rfl, ⟨_, SqT.of hb⟩, fun D hD => ?_⟩
      refine walk_core (walk_tup (K := K) (a := b) (xs := l.map V.int)) (fun i G => Same H G ∧ G D = some (.lst (((l.take i).map (vt v)).map V.int))) ⟨same_up hD, upd_same⟩ (fun _ _ _ g => SqT.of (g.1 _ _ hb)) ?_ ?_
      · rintro i y G G' hi ⟨s1, hD1⟩ ⟨rfl, hy⟩
        obtain ⟨x, hx, rfl⟩ := zV_get hy
        have hr := rn x (List.mem_of_getElem? hx)
        obtain ⟨z, ez⟩ : ∃ z, v[x.toNat]? = some z := ⟨_, List.getElem?_eq_getElem (by omega)⟩
        have ev : vt v x = z := by
          unfold vt
          rw [List.getD_eq_getElem?_getD, ez]
          rfl
        refine ⟨rfl, _, rfl, _, rfl, a, _, x, .int z, rfl, rfl, SqT.of (s1 _ _ ha), ?_, ?_⟩
        · obtain ⟨j, rfl⟩ : ∃ j : Nat, x = j := ⟨x.toNat, by omega⟩
          exact atI_nat (by rw [List.getElem?_map, show v[j]? = some z from ez]; rfl)
        · refine ⟨_, hD1, small1000 (by rw [List.length_map, List.length_map, List.length_take]; omega), sup hD s1, ?_⟩
          rw [upd_same, take_next1 hx, List.map_append, List.map_append, List.map_singleton, List.map_singleton, ev]
      · rintro G ⟨s1, hD1⟩
        rw [List.length_map, List.take_length] at hD1
        exact ⟨D, _, rfl, SqL.of hD1, q G s1⟩
theorem scLotsOf : FnScope ["count"] ["count"] (defScope sLotsOf) := ⟨rfl, rfl, rfl, by decide +kernel, rfl, by decide +kernel, by decide +kernel⟩
theorem ok_lotsof {f : Addr} {fd : FuncData} (F : Fun K "_lots_of" "_lots_of" sLotsOf f fd) (T : Cst mg) (D1 : Df P w K mg base 3 "all_lots" ["copies"] (spParts Tb)) : FnOk P w K mg base CX0 4 f fd ["count"] (spLotsOf Tb) := by
  obtain ⟨e1, fd1, G1, m1, k1, b1⟩ := D1.ex
  refine F.ok scLotsOf (fun vs H Q E h => ?_) (fun cdv A outer s0 H vs Q E hr h => ?_)
  · obtain ⟨n, rfl, _⟩ := h
    rfl
  · obtain ⟨n, rfl, n0, n5, hT, q⟩ := h
    refine ⟨_, pss_one (ps_ret (pe_call G1 hr (by rfl) m1 k1 b1 .nil pass0 (pa_cons (pe_listRg rfl (by rfl) T.tlst (prg_1 (by rfl) T.rng (pv 0))) pa_nil))), ?_⟩
    refine ⟨_, rfl, _, rfl, .of_le (by omega) (by omega) (by omega) (by omega), fun l hl => ?_⟩
    rw [rgV_rgZ]
    have s2 := same_up (o := .lst ((rgZ n).map V.int)) hl
    have fl : upd H l (.lst ((rgZ n).map V.int)) l = some (.lst ((rgZ n).map V.int)) := upd_same
    generalize upd H l (.lst ((rgZ n).map V.int)) = Gb at s2 fl ⊢
    exact ⟨l, rgZ n, rfl, .inr fl, by rw [rgZ_len]; omega, hT.ext s2, fun p PL Gc eN tN hPL ePL => q p PL Gc ((LamX.ExtN.of s2).trans eN) tN hPL ePL⟩
end
end Pl

namespace Pl
open L2 PySem PySem.Spec PyProof.Rows RZ
theorem rI0_to {g : Int → Int → V} {i j : Int} {v : V} {H : Hp} {Q : VK} (e : g i j = v) (q : Q v H) : rI0 g (.int i) (.int j) H Q := ⟨i, j, rfl, rfl, e ▸ q⟩
theorem heavy_mem {v l : Z} {u : Nat} {x : Int} (h : x ∈ heavy v u l) : x ∈ l := (List.mergeSort_perm l (leV v)).mem_iff.mp (List.mem_of_mem_take h)
theorem heavy_len (v l : Z) (u : Nat) : (heavy v u l).length ≤ l.length := by
  unfold heavy
  rw [List.length_take, List.length_mergeSort]
  exact Nat.min_le_right _ _
theorem cut_head (xs : List V) (u : Nat) : cutV xs none (some (u : Int)) = xs.take u := by
  unfold cutV
  rw [HT.sIx_none, HT.sIx_nat xs.length xs.length u, List.drop_zero, Nat.sub_zero]
  by_cases h : u ≤ xs.length
  · rw [Nat.min_eq_left h]
  · rw [Nat.min_eq_right (by omega), List.take_length, List.take_of_length_le (by omega)]
/-- votes, a number of unruly ones and a lot -/
structure Vl (v : Z) (u : Int) (l : Z) : Prop where
  vk : Vok v
  u0 : 0 ≤ u
  u5 : u ≤ 5
  lo : Lot v.length l
theorem Vl.ix {v : Z} {u : Int} {l : Z} (h : Vl v u l) : ∀ x ∈ l, 0 ≤ x ∧ x < v.length := h.lo.2
theorem Vl.len {v : Z} {u : Int} {l : Z} (h : Vl v u l) : l.length ≤ 5 := (h.lo.mono (by have := h.vk.len; omega)).len
def spHeavy (Tb : TbL) : Sp := fun vs H Q _ => ∃ (a b : Addr) (v l : Z) (u : Int), vs = [.ref a, .int u, .ref b] ∧ H a = some (.tup (v.map V.int)) ∧ H b = some (.tup (l.map V.int)) ∧ Vl v u l ∧ LamX.Tabs Tb H ∧ ∀ p G, LamX.ExtN H G → LamX.Tabs Tb G → G p = some (.lst ((heavy v u.toNat l).map V.int)) → Q (.ref p) G
def spSure (Tb : TbL) : Sp := fun vs H Q _ => ∃ (a b : Addr) (v l : Z) (u : Int), vs = [.ref a, .int u, .ref b] ∧ H a = some (.tup (v.map V.int)) ∧ H b = some (.tup (l.map V.int)) ∧ Vl v u l ∧ LamX.Tabs Tb H ∧ ∀ G, LamX.ExtN H G → LamX.Tabs Tb G → Q (.int (sureP v u.toNat l)) G
def CkU (CC : Addr) (n : Nat) (u : V) (H : Hp) (E : XK) (G : Prop) : Prop := ∃ d, Nv H u d ∧ (within d 0 n = false → Rais CC u H E) ∧ (within d 0 n = true → G)
def VtA (H : Hp) (v : V) (vts : Z) : Prop := ∃ a, v = .ref a ∧ H a = some (.tup (vts.map V.int)) ∧ Vok vts
abbrev psVUL : List Str := ["votes", "unruly", "lot"]
abbrev psVNUL : List Str := ["votes", "need", "unruly", "lot"]
theorem ext_tp {H G : Hp} {a : Addr} {xs : List V} (x : LamX.ExtN H G) (h : H a = some (.tup xs)) : G a = some (.tup xs) := x _ _ h fun _ q => by cases q
theorem ext_at {H G : Hp} {a : Addr} {xs : List V} (x : LamX.ExtN H G) (h : H a = some (.lst xs)) : G a = some (.lst xs) := x _ _ h fun _ q => by cases q
section
variable {P : Program} {K : PySem.W.Frag} {w : World} {base : Heap} {mg : Str → Option Value} {CV CN CC CL c Pt : Addr} {Tb : TbL}
theorem scHeavy : FnScope psVUL psVUL (defScope sHeavy) := ⟨rfl, rfl, rfl, by decide +kernel, rfl, by decide +kernel, by decide +kernel⟩
theorem ok_heavy {f : Addr} {fd : FuncData} (F : FunC K "_heaviest" "_heaviest" sHeavy f c fd) (T : Cst mg) (TB : LamX.TabB base mg c Pt) (hT : (Pt, lamH) ∈ Tb) (hT1 : ∀ p ∈ Tb, p.1 = Pt → p.2 = lamH) : FnOk P w K mg base CX0 3 f fd psVUL (spHeavy Tb) := by
  refine okC1 F scHeavy (fun vs H Q E h => ?_) (fun A outer s0 H vs Q E hr h => ?_)
  · obtain ⟨a, b, v, l, u, rfl, _⟩ := h
    rfl
  · obtain ⟨a, b, v, l, u, rfl, ha, hb, vl, hTb, q⟩ := h
    refine ⟨_, pss_one (ps_ret (pe_slice sl_list (pe_sortV (i := 0) (c := c) (P := Pt) ⟨rfl, rfl, rfl, rfl, fun _ _ _ _ _ _ => rfl, ⟨_, _, _, _, _, _, _, rfl⟩⟩ (by rfl) T.srt (pv 2) TB hT hT1 rfl (hr.mono (by decide)) rfl rfl) po_none (po_some (pv 1)))), ?_⟩
    refine ⟨a, v, rfl, ha, by have := vl.vk.len; omega, _, rfl, fun _ _ e => e, hTb, b, l, rfl, hb, fun x hx => ?_, fun H2 p eN T2 hp => ?_⟩
    · have := vl.ix x hx
      omega
    · refine noPart ?_
      have s2 := same_up (o := .lst ((l.mergeSort (leV v)).map V.int)) hp
      have f2 : upd H2 p (.lst ((l.mergeSort (leV v)).map V.int)) p = some (.lst ((l.mergeSort (leV v)).map V.int)) := upd_same
      generalize upd H2 p (.lst ((l.mergeSort (leV v)).map V.int)) = G2 at s2 f2 ⊢
      refine ⟨_, rfl, u, rfl, p, _, rfl, SqL.of f2, fun p2 hp2 => ?_⟩
      have s3 := s2.trans (same_up (o := .lst (cutV ((l.mergeSort (leV v)).map V.int) none (some u))) hp2)
      refine q p2 _ (eN.trans (LamX.ExtN.of s3)) (T2.ext s3) ?_
      obtain ⟨k, rfl⟩ : ∃ k : Nat, u = k := ⟨u.toNat, by have := vl.u0; omega⟩
      rw [upd_same, cut_head, ← List.map_take]
      rfl
theorem scSure : FnScope psVUL psVUL (defScope sSure) := ⟨rfl, rfl, rfl, by decide +kernel, rfl, by decide +kernel, by decide +kernel⟩
theorem ok_sure {f : Addr} {fd : FuncData} (F : Fun K "_sure_votes" "_sure_votes" sSure f fd) (D1 : Df P w K mg base 1 "votes_of" ["votes", "lot"] spVof) (D2 : Df P w K mg base 3 "_heaviest" psVUL (spHeavy Tb)) : FnOk P w K mg base CX0 4 f fd psVUL (spSure Tb) := by
  obtain ⟨e1, fd1, G1, m1, k1, b1⟩ := D1.ex
  obtain ⟨e2, fd2, G2, m2, k2, b2⟩ := D2.ex
  refine F.ok scSure (fun vs H Q E h => ?_) (fun cdv A outer s0 H vs Q E hr h => ?_)
  · obtain ⟨a, b, v, l, u, rfl, _⟩ := h
    rfl
  · obtain ⟨a, b, v, l, u, rfl, ha, hb, vl, hTb, q⟩ := h
    refine ⟨_, pss_one (ps_ret (pe_op op_sub (pe_call G1 (hr.mono (by decide)) (by rfl) m1 k1 b1 .nil pass0 (pa_cons (pv 0) (pa_cons (pv 2) pa_nil)))
      (pe_call G1 (hr.mono (by decide)) (by rfl) m1 k1 b1 .nil pass0 (pa_cons (pv 0) (pa_cons (pe_call G2 hr (by rfl) m2 k2 b2 .nil pass0 (pa_cons (pv 0) (pa_cons (pv 1) (pa_cons (pv 2) pa_nil)))) pa_nil))))), ?_⟩
    have l5 := vl.len
    refine ⟨_, rfl, _, rfl, a, b, v, l, rfl, ha, .inr hb, vl.ix, by omega, fun G1' s1 => ?_⟩
    refine ⟨_, rfl, _, rfl, _, rfl, _, rfl, a, b, v, l, u, rfl, s1 _ _ ha, s1 _ _ hb, vl, hTb.ext s1, fun p G eN tN hp => ?_⟩
    have e1 := (LamX.ExtN.of s1).trans eN
    refine ⟨a, p, v, heavy v u.toNat l, rfl, ext_tp e1 ha, .inl hp, fun x hx => vl.ix x (heavy_mem hx), Nat.le_trans (heavy_len _ _ _) (by omega), fun G2' s2 => ?_⟩
    exact rI0_to (v := V.int (sureP v u.toNat l)) rfl (q _ (e1.trans (LamX.ExtN.of s2)) (tN.ext s2))
end
end Pl

namespace Pl
open L2 PySem PySem.Spec PyProof.Rows RZ
/-- the source of draws stands at z -/
def Src (z : Addr) (H : Hp) : Prop := ∃ x y : Int, H z = some (.lst [.int x, .int y]) ∧ 0 ≤ x ∧ 0 ≤ y ∧ y < 2147483647
theorem Src.some {z : Addr} {H : Hp} (h : Src z H) : ∃ o, H z = some o := let ⟨x, y, e, _⟩ := h; ⟨_, e⟩
def spPool (K : PySem.W.Frag) : Sp := fun vs H Q _ => ∃ (a : Addr) (ns : List Int) (k : Int), vs = [.ref a, .int k] ∧ SqL K H a (ns.map V.int) ∧ 0 ≤ k ∧ k ≤ 10 ∧ ∀ p H', H p = none → Same H H' → Src p H' → Q (.ref p) H'
def spTake : Sp := fun vs H Q _ => ∃ (z : Addr) (t : Int), vs = [.ref z, .int t] ∧ Src z H ∧ 0 < t ∧ t ≤ 1000 ∧ ∀ (r : Int) (H' : Hp), 0 ≤ r → r < t → But z H H' → Src z H' → Q (.int r) H'
section
variable {P : Program} {K : PySem.W.Frag} {w : World} {base : Heap} {mg : Str → Option Value}
theorem scPool : FnScope ["_law_script", "_law_k", "_law_cell", "_law_big", "_law_mixed"] ["_law_script", "_law_k"] (defScope sPool) := ⟨rfl, rfl, rfl, by decide +kernel, rfl, by decide +kernel, by decide +kernel⟩
theorem ok_pool {f : Addr} {fd : FuncData} (F : Fun K "_law_pool" "_law_pool" sPool f fd) (T : Cst mg) : FnOk P w K mg base CX0 1 f fd ["_law_script", "_law_k"] (spPool K) := by
  refine F.ok scPool (fun vs H Q E h => ?_) (fun cdv A outer s H vs Q E hr h => ?_)
  · obtain ⟨a, ns, k, rfl, _⟩ := h; skip
    rfl
  · obtain ⟨a, ns, k, rfl, hS, k0, k1, q⟩ := h
    refine ⟨_, pss_cons (ps_set (i := 2) scPool.nd rfl (Or.inl rfl) pe_int)
      (pss_cons (ps_if (pt_cmpR op_lt (pv 1) (pe_callB call_len_seq (by rfl) T.len PySem.boot_len (pa_cons (pv 0) pa_nil)) (nomark _))
        (pss_one (ps_set (i := 2) scPool.nd rfl (Or.inl rfl) (pe_ix ix_list (pv 0) (pv 1) (fun _ _ => rfl)))) pss_nil)
      (pss_cons (ps_set (i := 3) scPool.nd rfl (Or.inl rfl) (pe_callB (call_max2 rfl) (by rfl) T.max_ (by decide +kernel) (pa_cons (pe_callTy call_int1 (by rfl) T.tint (by decide +kernel) (pa_cons (pv 2) pa_nil))
        (pa_cons (pe_callTy call_int1 (by rfl) T.tint (by decide +kernel) (pa_cons (pe_op op_sub (pe_un un_neg pe_int) (pv 2)) pa_nil)) pa_nil))))
      (pss_cons (ps_set (i := 4) scPool.nd rfl (Or.inl rfl) (pe_op op_mod (pe_callTy call_int1 (by rfl) T.tint (by decide +kernel) (pa_cons
          (pe_op op_mul (pe_op op_add (pe_op op_add (pe_op op_add (pe_op op_mod (pe_callTy call_int1 (by rfl) T.tint (by decide +kernel) (pa_cons (pv 3) pa_nil)) pe_int) (pe_op op_mul (pe_op op_mul pe_int (pv 1)) (pv 1))) (pe_op op_mul pe_int (pv 1))) pe_int) pe_int) pa_nil)) pe_int))
      (pss_one (ps_ret (pe_lst (pa_cons (pe_op op_mul (pv 3) (pe_callTy call_int1 (by rfl) T.tint (by decide +kernel) (pa_cons (pe_cmpR op_ge (pv 3) (pe_op op_pow pe_int pe_int) (nomark _)) pa_nil))) (pa_cons (pv 4) pa_nil)))))))), ?_⟩
    have hbig : ∀ c : Int, 0 ≤ (if (-1 - c) > c then (-1 - c) else c) := fun c => by
      split <;> omega
    have fin : ∀ (b : Int) (p : Addr) (G : Hp), 0 ≤ b → H p = none → Same H G → G p = some (.lst [.int (b * (if decide (b ≥ 10 ^ 18) = true then 1 else 0)), .int (((b % 2147483629 + 7919 * k * k + 31 * k + 17) * 48271) % 2147483647)]) → Q (.ref p) G := fun b p G hb hp sG hG => by
      refine q p G hp sG ⟨_, _, hG, ?_, Int.emod_nonneg _ (by decide), Int.emod_lt_of_pos _ (by decide)⟩
      refine Int.mul_nonneg hb ?_
      split <;> decide
    have bnd : ∀ b : Int, 0 ≤ b % 2147483629 ∧ b % 2147483629 < 2147483629 := fun b => ⟨Int.emod_nonneg _ (by decide), Int.emod_lt_of_pos _ (by decide)⟩
    have kk : 0 ≤ 7919 * k ∧ 7919 * k ≤ 79190 := ⟨by omega, by omega⟩
    have kk2 : 0 ≤ 7919 * k * k ∧ 7919 * k * k ≤ 791900 := ⟨Int.mul_nonneg kk.1 k0, by
      have := Int.mul_le_mul kk.2 k1 k0 (by omega)
      omega⟩
    refine ⟨_, rfl, _, rfl, a, _, rfl, .inl hS, _, _, rfl, rfl, _, rfl, ?_⟩; skip
    refine ite2 (fun e => ?_) fun e => ?_
    · obtain ⟨j, rfl⟩ : ∃ j : Nat, k = j := ⟨k.toNat, by omega⟩
      have hj : j < ns.length := by
        have := of_decide_eq_true e
        rw [List.length_map] at this
        omega
      refine ⟨_, rfl, _, rfl, a, _, _, .int ns[j], rfl, rfl, hS, atI_nat (by rw [List.getElem?_map, List.getElem?_eq_getElem hj]; rfl), ?_⟩
      refine ⟨_, rfl, .inl ⟨_, rfl, ?_⟩⟩
      refine ⟨_, rfl, _, rfl, _, _, rfl, rfl, .inl ⟨_, rfl, ?_⟩⟩
      refine ⟨_, _, rfl, ?_⟩
      have hb := hbig (ns[j])
      revert hb
      generalize (if (-1 - ns[j]) > ns[j] then (-1 - ns[j]) else ns[j]) = b
      intro hb
      have h1 := bnd b
      refine ⟨_, rfl, .inl ⟨_, rfl, _, _, rfl, rfl, (by show (0 : Int) < 2147483629; decide), ?_⟩⟩
      refine ⟨_, rfl, _, _, rfl, rfl, .inl ⟨by decide, by decide⟩, _, rfl, _, _, rfl, rfl, .inl ⟨by omega, by omega⟩, ?_⟩
      refine ⟨_, _, rfl, rfl, _, rfl, _, _, rfl, rfl, .inl ⟨by decide, by decide⟩, _, _, rfl, rfl, _, _, rfl, rfl, ?_⟩
      refine ⟨_, _, rfl, rfl, .inl ⟨by omega, by omega⟩, .inl ⟨_, rfl, _, _, rfl, rfl, (by show (0 : Int) < 2147483647; decide), ?_⟩⟩
      refine ⟨_, rfl, _, rfl, _, _, rfl, rfl, ⟨by decide, by decide, by decide⟩, _, _, rfl, rfl, .inr ⟨_, rfl, _, _, rfl, rfl, .inr ⟨?_, ?_⟩, _, rfl, (by show 2 ≤ sizeLine; decide), fun p hp => fin b p _ hb hp (same_new hp) upd_same⟩⟩
      · split <;> decide
      · split <;> decide
    · refine ⟨_, rfl, .inl ⟨_, rfl, ?_⟩⟩
      refine ⟨_, rfl, _, rfl, _, _, rfl, rfl, .inl ⟨_, rfl, ?_⟩⟩
      refine ⟨_, _, rfl, ?_⟩
      have hb := hbig (0)
      revert hb
      generalize (if (-1 - 0) > 0 then (-1 - 0) else 0) = b
      intro hb
      have h1 := bnd b
      refine ⟨_, rfl, .inl ⟨_, rfl, _, _, rfl, rfl, (by show (0 : Int) < 2147483629; decide), ?_⟩⟩
      refine ⟨_, rfl, _, _, rfl, rfl, .inl ⟨by decide, by decide⟩, _, rfl, _, _, rfl, rfl, .inl ⟨by omega, by omega⟩, ?_⟩
      refine ⟨_, _, rfl, rfl, _, rfl, _, _, rfl, rfl, .inl ⟨by decide, by decide⟩, _, _, rfl, rfl, _, _, rfl, rfl, ?_⟩
      refine ⟨_, _, rfl, rfl, .inl ⟨by omega, by omega⟩, .inl ⟨_, rfl, _, _, rfl, rfl, (by show (0 : Int) < 2147483647; decide), ?_⟩⟩
      refine ⟨_, rfl, _, rfl, _, _, rfl, rfl, ⟨by decide, by decide, by decide⟩, _, _, rfl, rfl, .inr ⟨_, rfl, _, _, rfl, rfl, .inr ⟨?_, ?_⟩, _, rfl, (by show 2 ≤ sizeLine; decide), fun p hp => fin b p _ hb hp (same_new hp) upd_same⟩⟩
      · split <;> decide
      · split <;> decide
theorem scTake : FnScope ["_law_source", "_law_top", "_law_told"] ["_law_source", "_law_top"] (defScope sTake) := ⟨rfl, rfl, rfl, by decide +kernel, rfl, by decide +kernel, by decide +kernel⟩
theorem ok_take {f : Addr} {fd : FuncData} (F : Fun K "_law_take" "_law_take" sTake f fd) (T : Cst mg) : FnOk P w K mg base CX0 1 f fd ["_law_source", "_law_top"] spTake := by
  refine F.ok scTake (fun vs H Q E h => ?_) (fun cdv A outer s H vs Q E hr h => ?_)
  · obtain ⟨z, t, rfl, _⟩ := h
    rfl
  · obtain ⟨z, t, rfl, ⟨x, y, hz, x0, y0, y1⟩, t0, t1, q⟩ := h
    refine ⟨_, pss_cons (ps_if (pt_cmpR op_gt (pe_ix ix_list (pv 0) pe_int (fun _ _ => rfl)) pe_int (nomark _))
        (pss_cons (ps_set (i := 2) scTake.nd rfl (Or.inl rfl) (pe_op op_mod (pe_callTy call_int1 (by rfl) T.tint (by decide +kernel) (pa_cons (pe_ix ix_list (pv 0) pe_int (fun _ _ => rfl)) pa_nil)) (pv 1)))
        (pss_cons (ps_asg (pe_op op_fdiv (pe_ix ix_list (pv 0) pe_int (fun _ _ => rfl)) (pv 1)) (pg_sub (pv 0) pe_int L2.set_list))
        (pss_one (ps_ret (pv 2))))) pss_nil)
      (pss_cons (ps_asg (pe_op op_mod (pe_callTy call_int1 (by rfl) T.tint (by decide +kernel) (pa_cons (pe_op op_add (pe_op op_mul (pe_ix ix_list (pv 0) pe_int (fun _ _ => rfl)) pe_int) pe_int) pa_nil)) pe_int) (pg_sub (pv 0) pe_int L2.set_list))
      (pss_one (ps_ret (pe_op op_mod (pe_callTy call_int1 (by rfl) T.tint (by decide +kernel) (pa_cons (pe_op op_fdiv (pe_op op_mod (pe_callTy call_int1 (by rfl) T.tint (by decide +kernel) (pa_cons (pe_op op_mul (pe_ix ix_list (pv 0) pe_int (fun _ _ => rfl)) (pe_ix ix_list (pv 0) pe_int (fun _ _ => rfl))) pa_nil)) pe_int) pe_int) pa_nil)) (pv 1))))), ?_⟩
    refine ⟨_, rfl, z, _, _, .int x, rfl, rfl, SqL.of hz, atI_nat (j := 0) rfl, _, _, rfl, rfl, _, rfl, ?_⟩
    refine ite2 (fun e => ?_) fun e => ?_
    · refine ⟨_, rfl, z, _, _, .int x, rfl, rfl, SqL.of hz, atI_nat (j := 0) rfl, .inl ⟨_, rfl, _, rfl, _, _, rfl, rfl, t0, ?_⟩⟩
      refine ⟨_, rfl, z, _, _, .int x, rfl, rfl, SqL.of hz, atI_nat (j := 0) rfl, _, rfl, _, _, rfl, rfl, ⟨t0, by omega⟩, ?_⟩
      refine ⟨_, rfl, z, _, _, 0, rfl, rfl, hz, rfl, _, rfl, ?_⟩
      exact q _ _ (Int.emod_nonneg _ (by omega)) (Int.emod_lt_of_pos _ t0) But.upd ⟨_, _, upd_same, Int.ediv_nonneg x0 (by omega), y0, y1⟩
    · refine ⟨_, rfl, z, _, _, .int y, rfl, rfl, SqL.of hz, atI_nat (j := 1) rfl, _, _, rfl, rfl, .inl ⟨by omega, by omega⟩, _, _, rfl, rfl, .inl ⟨_, rfl, _, _, rfl, rfl, (by show (0 : Int) < 2147483647; decide), ?_⟩⟩
      have h2 : 0 ≤ (y * 39373 + 7) % 2147483647 ∧ (y * 39373 + 7) % 2147483647 < 2147483647 := ⟨Int.emod_nonneg _ (by decide), Int.emod_lt_of_pos _ (by decide)⟩
      refine ⟨_, rfl, z, _, _, 1, rfl, rfl, hz, rfl, ?_⟩
      have hz2 : upd H z (.lst ([V.int x, V.int y].set 1 (V.int ((y * 39373 + 7) % 2147483647)))) z = some (.lst [.int x, .int ((y * 39373 + 7) % 2147483647)]) := upd_same
      refine ⟨_, rfl, z, _, _, .int ((y * 39373 + 7) % 2147483647), rfl, rfl, SqL.of hz2, atI_nat (j := 1) rfl, _, rfl, z, _, _, .int ((y * 39373 + 7) % 2147483647), rfl, rfl, SqL.of hz2, atI_nat (j := 1) rfl, _, _, rfl, rfl, .inl ⟨by omega, by omega⟩, .inl ⟨_, rfl, _, _, rfl, rfl, (by show (0 : Int) < 2147483629; decide), ?_⟩⟩
      refine ⟨_, _, rfl, rfl, ⟨by decide, by decide⟩, .inl ⟨_, rfl, _, rfl, _, _, rfl, rfl, t0, ?_⟩⟩
      exact q _ _ (Int.emod_nonneg _ (by omega)) (Int.emod_lt_of_pos _ t0) But.upd ⟨_, _, hz2, x0, h2.1, h2.2⟩
end
theorem Src.ext {z : Addr} {H G : Hp} (h : Src z H) (e : LamX.ExtN H G) : Src z G := by
  obtain ⟨x, y, hz, r⟩ := h
  exact ⟨x, y, e _ _ hz (fun _ q => by cases q), r⟩
theorem Src.same {z : Addr} {H G : Hp} (h : Src z H) (e : Same H G) : Src z G := h.ext (LamX.ExtN.of e)
theorem Src.upd {z D : Addr} {H : Hp} {o : HO} (h : Src z H) (n : D ≠ z) : Src z (L2.upd H D o) := by
  obtain ⟨x, y, hz, r⟩ := h
  exact ⟨x, y, (upd_ne (Ne.symm n)).trans hz, r⟩
theorem But.sup {z : Addr} {H G : Hp} {D : Addr} {o : HO} (hD : H D = none) (s : But z H G) : But z H (L2.upd G D o) := fun b u n t hb => by
  rw [upd_ne (ne_of_none hb hD)]
  exact s b u n t hb
theorem tabs_but {z : Addr} {Tb : TbL} {H G : Hp} (b : But z H G) (s : Src z H) (t : LamX.Tabs Tb H) : LamX.Tabs Tb G := by
  obtain ⟨x, y, hz, _⟩ := s
  intro p hp
  obtain ⟨ps, h1, h2, h3⟩ := t p hp
  have n1 : p.1 ≠ z := fun e => by
    rw [e, hz] at h1
    cases h1
  refine ⟨ps, b _ _ n1 trivial h1, h2, fun pos cv hc => ?_⟩
  obtain ⟨c, e1, e2⟩ := h3 pos cv hc; skip
  have n2 : c ≠ z := fun e => by
    rw [e, hz] at e2
    cases e2
  exact ⟨c, e1, b _ _ n2 trivial e2⟩
theorem ext_but {z : Addr} {H G F : Hp} (e : LamX.ExtN H G) (hz : ∀ b o, H b = some o → (∀ ps, o ≠ .tbl ps) → b ≠ z) (b : But z G F) : LamX.ExtN H F := fun c o h n => b c o (hz c o h n) trivial (e c o h n)
theorem sql_ext {K : PySem.W.Frag} {H G : Hp} {a : Addr} {xs : List V} (e : LamX.ExtN H G) (h : SqL K H a xs) : SqL K G a xs := by
  rcases h with (h | ⟨o, h⟩) | h; skip
  · exact .inl (.inl (e _ _ h fun _ q => by cases q))
  · exact .inl (.inr ⟨o, e _ _ h fun _ q => by cases q⟩)
  · exact .inr h
theorem lots_z {z p : Addr} {H G : Hp} {L : List AT} (h : Lots H p L) (s : Src z H) (b : But z H G) : Lots G p L := by
  obtain ⟨x, y, hz, _⟩ := s
  by_cases e : p = z
  · subst e
    have h1 := h.1
    rw [hz] at h1
    have h2 := HO.lst.inj (Option.some.inj h1)
    exfalso
    cases L with
    | nil => cases h2
    | cons q L => cases h2
  · refine ⟨b _ _ e trivial h.1, fun q hq => b _ _ (fun e => ?_) trivial (h.2 q hq)⟩
    have h1 := h.2 q hq
    rw [e, hz] at h1
    cases h1
theorem tup_z {z p : Addr} {H G : Hp} {xs : List V} (h : H p = some (.tup xs)) (s : Src z H) (b : But z H G) : G p = some (.tup xs) := by
  obtain ⟨x, y, hz, _⟩ := s
  refine b _ _ (fun e => ?_) trivial h
  rw [e, hz] at h
  cases h
def spOne : Sp := fun vs H Q _ => ∃ (z t : Addr) (xs : List V), vs = [.ref z, .ref t] ∧ Src z H ∧ H t = some (.lst xs) ∧ t ≠ z ∧ 0 < xs.length ∧ xs.length ≤ 100 ∧ ∀ (i : Nat) x (H' : Hp), xs[i]? = some x → But z H H' → Src z H' → Q x H'
def spLAll : Sp := fun vs H Q _ => ∃ (n : Int), vs = [.int n] ∧ 0 ≤ n ∧ n ≤ 5 ∧ ∀ p L G, Same H G → Lots G p L → L.map (·.2) = subs (rgZ n) → Q (.ref p) G
def spLSum : Sp := fun vs H Q _ => ∃ (a b : Addr) (v l : Z), vs = [.ref a, .ref b] ∧ H a = some (.tup (v.map V.int)) ∧ H b = some (.tup (l.map V.int)) ∧ (∀ x ∈ l, 0 ≤ x ∧ x < v.length) ∧ l.length ≤ 100 ∧ ∀ G, Same H G → Q (.int (vsum v l)) G
def spLSure : Sp := fun vs H Q _ => ∃ (a b : Addr) (v l : Z) (u : Int), vs = [.ref a, .ref b, .int u] ∧ H a = some (.tup (v.map V.int)) ∧ H b = some (.tup (l.map V.int)) ∧ Vl v u l ∧ ∀ G, Same H G → Q (.int (sureP v u.toNat l)) G
def spLEn : Sp := fun vs H Q _ => ∃ (a b : Addr) (v l : Z) (n u : Int), vs = [.ref a, .int n, .int u, .ref b] ∧ H a = some (.tup (v.map V.int)) ∧ H b = some (.tup (l.map V.int)) ∧ Vl v u l ∧ ∀ G, Same H G → Q (.bl (enoughP v n u.toNat l)) G
theorem first_at {m : Int} : ∀ {ms : Z}, m ∈ ms → ∃ j : Nat, ms[j]? = some m ∧ ∀ k x, k < j → ms[k]? = some x → x ≠ m
  | x :: ms, h => by
    by_cases e : x = m
    · exact ⟨0, by rw [e]; rfl, fun k y hk => absurd hk (Nat.not_lt_zero _)⟩
    · rcases List.mem_cons.mp h with h | h
      · exact absurd h.symm e
      · obtain ⟨j, h1, h2⟩ := first_at h
        refine ⟨j + 1, by simpa using h1, fun k y hk hy => ?_⟩
        cases k with
        | zero =>
          simp at hy
          rw [← hy]
          exact e
        | succ k => exact h2 k y (by omega) (by simpa using hy)
theorem erase_perm {m : Int} : ∀ {ms : Z} {j : Nat}, ms[j]? = some m → ms.Perm (m :: ms.eraseIdx j)
  | x :: ms, 0, h => by
    simp at h
    subst h
    exact .refl _
  | x :: ms, j + 1, h => by
    have h' : ms[j]? = some m := by simpa using h
    exact ((erase_perm h').cons x).trans (.swap m x _)
theorem map_eraseIdx : ∀ (ms : Z) (j : Nat), (ms.map V.int).eraseIdx j = (ms.eraseIdx j).map V.int
  | [], _ => rfl
  | _ :: _, 0 => rfl
  | x :: ms, j + 1 => congrArg (V.int x :: ·) (map_eraseIdx ms j)
abbrev nLA : List Str := ["_law_many", "_law_found", "_law_copy", "_law_lot"]
abbrev nIS : List Str := ["_law_lots", "_law_found", "_law_size", "_law_lot"]
abbrev nLM : List Str := ["_law_votes_here", "_law_lot", "_law_copy"]
abbrev nLU : List Str := ["_law_votes_here", "_law_lot", "_law_unruly_here", "_law_left", "_law_turn", "_law_copy", "_law_one_here"]
abbrev nME : List Str := ["_law_lot", "_law_other", "_law_unruly_here", "_law_copy"]
section
variable {P : Program} {K : PySem.W.Frag} {w : World} {base : Heap} {mg : Str → Option Value}
theorem scOne : FnScope ["_law_source", "_law_things"] ["_law_source", "_law_things"] (defScope sOne) := ⟨rfl, rfl, rfl, by decide +kernel, rfl, by decide +kernel, by decide +kernel⟩
theorem ok_one {f : Addr} {fd : FuncData} (F : Fun K "_law_one" "_law_one" sOne f fd) (T : Cst mg) (DT : Df P w K mg base 1 "_law_take" ["_law_source", "_law_top"] spTake) : FnOk P w K mg base CX0 2 f fd ["_law_source", "_law_things"] spOne := by
  obtain ⟨gT, fdT, GT, mT, kT, bT⟩ := DT.ex
  refine F.ok scOne (fun vs H Q E h => ?_) (fun cdv A outer s0 H vs Q E hr h => ?_)
  · obtain ⟨z, t, xs, rfl, _⟩ := h
    rfl
  · obtain ⟨z, t, xs, rfl, hz, ht, tz, l0, l1, q⟩ := h
    refine ⟨_, pss_one (ps_ret (pe_ix (show IxR _ (rIxL K) from ix_list) (pv 1) (pe_call GT hr (by rfl) mT kT bT .nil pass0 (pa_cons (pv 0) (pa_cons (pe_callB call_len_seq (by rfl) T.len PySem.boot_len (pa_cons (pv 1) pa_nil)) pa_nil))) (fun _ _ => rfl))), ?_⟩
    refine ⟨_, rfl, _, rfl, _, rfl, t, _, rfl, .inl (SqL.of ht), z, _, rfl, hz, by omega, by omega, fun r G r0 r1 b1 z1 => ?_⟩
    obtain ⟨j, rfl⟩ : ∃ j : Nat, r = j := ⟨r.toNat, by omega⟩
    obtain ⟨x, ex⟩ : ∃ x, xs[j]? = some x := ⟨_, List.getElem?_eq_getElem (by omega)⟩
    exact ⟨t, _, _, x, rfl, rfl, SqL.of (b1 _ _ tz trivial ht), atI_nat ex, q j x G ex b1 z1⟩
theorem scLSum : FnScope nLM ["_law_votes_here", "_law_lot"] (defScope sLSum) := ⟨rfl, rfl, rfl, by decide +kernel, rfl, by decide +kernel, by decide +kernel⟩
theorem ok_lsum {f : Addr} {fd : FuncData} (F : Fun K "_law_sum" "_law_sum" sLSum f fd) (T : Cst mg) : FnOk P w K mg base CX0 1 f fd ["_law_votes_here", "_law_lot"] spLSum := by
  refine F.ok scLSum (fun vs H Q E h => ?_) (fun cdv A outer s0 H vs Q E hr h => ?_)
  · obtain ⟨a, b, v, l, rfl, _⟩ := h
    rfl
  · obtain ⟨a, b, v, l, rfl, ha, hb, rn, ll, q⟩ := h
    refine ⟨_, pss_one (ps_ret (pe_callB (cr_sum rfl) (by rfl) T.sum_ (by decide +kernel) (pa_cons (pe_lc (own := [("_law_copy", 2)]) (g := gName 2) (tt := tYes) rfl scLSum.nd (pi_tup (pv 1)) (blkOk_by (own := [("_law_copy", 2)]) (N := nLM) (sc := defScope sLSum) (by decide +kernel))
          (fun _ _ _ _ _ => pg_name (i := 2) scLSum.nd rfl (Or.inl rfl)) (fun _ _ _ _ _ => pts_nil) (fun _ _ _ _ _ => pe_ix (show IxR _ (rIxT K) from ix_tup) (pv 0) (pv 2) (fun _ _ => rfl))) pa_nil))), ?_⟩
    refine ⟨_, rfl, b, rfl, ⟨_, SqT.of hb⟩, fun D hD => ?_⟩
    refine walk_core (walk_tup (K := K) (a := b) (xs := l.map V.int)) (fun i G => Same H G ∧ G D = some (.lst (((l.take i).map (vt v)).map V.int))) ⟨same_up hD, upd_same⟩ (fun _ _ _ g => SqT.of (g.1 _ _ hb)) ?_ ?_
    · rintro i y G G' hi ⟨s1, hD1⟩ ⟨rfl, hy⟩
      obtain ⟨x, hx, rfl⟩ := zV_get hy
      have hr := rn x (List.mem_of_getElem? hx)
      obtain ⟨z, ez⟩ : ∃ z, v[x.toNat]? = some z := ⟨_, List.getElem?_eq_getElem (by omega)⟩
      have ev : vt v x = z := by
        unfold vt
        rw [List.getD_eq_getElem?_getD, ez]
        rfl
      refine ⟨rfl, _, rfl, _, rfl, a, _, x, .int z, rfl, rfl, SqT.of (s1 _ _ ha), ?_, ?_⟩
      · obtain ⟨j, rfl⟩ : ∃ j : Nat, x = j := ⟨x.toNat, by omega⟩
        exact atI_nat (by rw [List.getElem?_map, show v[j]? = some z from ez]; rfl)
      · refine ⟨_, hD1, small1000 (by rw [List.length_map, List.length_map, List.length_take]; omega), sup hD s1, ?_⟩
        rw [upd_same, take_next1 hx, List.map_append, List.map_append, List.map_singleton, List.map_singleton, ev]
    rintro G ⟨s1, hD1⟩
    rw [List.length_map, List.take_length] at hD1
    exact ⟨D, _, rfl, SqL.of hD1, q G s1⟩
theorem scLSure : FnScope nLU ["_law_votes_here", "_law_lot", "_law_unruly_here"] (defScope sLSure) := ⟨rfl, rfl, rfl, by decide +kernel, rfl, by decide +kernel, by decide +kernel⟩
theorem ok_lsure {f : Addr} {fd : FuncData} (F : Fun K "_law_sure" "_law_sure" sLSure f fd) (T : Cst mg) : FnOk P w K mg base CX0 1 f fd ["_law_votes_here", "_law_lot", "_law_unruly_here"] spLSure := by
  refine F.ok scLSure (fun vs H Q E h => ?_) (fun cdv A outer s0 H vs Q E hr h => ?_)
  · obtain ⟨a, b, v, l, u, rfl, _⟩ := h
    rfl
  · obtain ⟨a, b, v, l, u, rfl, ha, hb, vl, q⟩ := h
    have rn := vl.ix
    have ll := vl.len
    refine ⟨_, pss_cons (ps_setLc (i := 3) (own := [("_law_copy", 5)]) (g := gName 5) (tt := tYes) rfl scLSure.nd rfl rfl (sw_true rfl rfl rfl (by decide +kernel)) (pi_tup (pv 1)) (blkOk_by (own := [("_law_copy", 5)]) (N := nLU) (sc := defScope sLSure) (by decide +kernel))
          (fun _ _ _ _ _ => pg_name (i := 5) scLSure.nd rfl (Or.inl rfl)) (fun _ _ _ _ _ => pts_nil) (fun _ _ _ _ _ => pe_ix (show IxR _ (rIxT K) from ix_tup) (pv 0) (pv 5) (fun _ _ => rfl)))
      (pss_cons (ps_for PassesOwn.never rfl (pi_range1 rfl T.rng (pa_cons (pe_callB (call_min2 rfl) (by rfl) T.min_ (by decide +kernel) (pa_cons (pv 2) (pa_cons (pe_callB call_len_seq (by rfl) T.len PySem.boot_len (pa_cons (pv 3) pa_nil)) pa_nil))) pa_nil)) (pg_name (i := 4) scLSure.nd rfl (Or.inl rfl))
        (pss_one (ps_expr (pe_bm PySem.F.plainAttrs_list PySem.F.slot_list_pop PySem.F.type_list_pop mt_popAt (pv 3) (pa_cons (pe_bm PySem.F.plainAttrs_list PySem.F.slot_list_index PySem.F.type_list_index mt_index (pv 3) (pa_cons
          (pe_callB (cr_max rfl) (by rfl) T.max_ (by decide +kernel) (pa_cons (pe_lc (own := [("_law_one_here", 6)]) (g := gName 6) (tt := tYes) rfl scLSure.nd (pi_list (pv 3)) (blkOk_by (own := [("_law_one_here", 6)]) (N := nLU) (sc := defScope sLSure) (by decide +kernel))
            (fun _ _ _ _ _ => pg_name (i := 6) scLSure.nd rfl (Or.inl rfl)) (fun _ _ _ _ _ => pts_nil) (fun _ _ _ _ _ => pe_callTy call_int1 (by rfl) T.tint (by decide +kernel) (pa_cons (pv 6) pa_nil))) pa_nil)) pa_nil)) pa_nil)))))
      (pss_one (ps_ret (pe_callB (cr_sum rfl) (by rfl) T.sum_ (by decide +kernel) (pa_cons (pv 3) pa_nil))))), ?_⟩
    refine ⟨_, rfl, b, rfl, ⟨_, SqT.of hb⟩, fun D hD => ?_⟩
    refine walk_core (walk_tup (K := K) (a := b) (xs := l.map V.int)) (fun i G => Same H G ∧ G D = some (.lst (((l.take i).map (vt v)).map V.int))) ⟨same_up hD, upd_same⟩ (fun _ _ _ g => SqT.of (g.1 _ _ hb)) ?_ ?_
    · rintro i y G G' hi ⟨s1, hD1⟩ ⟨rfl, hy⟩
      obtain ⟨x, hx, rfl⟩ := zV_get hy
      have hr := rn x (List.mem_of_getElem? hx)
      obtain ⟨z, ez⟩ : ∃ z, v[x.toNat]? = some z := ⟨_, List.getElem?_eq_getElem (by omega)⟩
      have ev : vt v x = z := by
        unfold vt
        rw [List.getD_eq_getElem?_getD, ez]
        rfl
      refine ⟨rfl, _, rfl, _, rfl, a, _, x, .int z, rfl, rfl, SqT.of (s1 _ _ ha), ?_, ?_⟩
      · obtain ⟨j, rfl⟩ : ∃ j : Nat, x = j := ⟨x.toNat, by omega⟩
        exact atI_nat (by rw [List.getElem?_map, show v[j]? = some z from ez]; rfl)
      · refine ⟨_, hD1, small1000 (by rw [List.length_map, List.length_map, List.length_take]; omega), sup hD s1, ?_⟩
        rw [upd_same, take_next1 hx, List.map_append, List.map_append, List.map_singleton, List.map_singleton, ev]
    rintro G ⟨s1, hD1⟩
    rw [List.length_map, List.take_length] at hD1
    have hsort : ((l.map (vt v))).Perm ((l.mergeSort (leV v)).map (vt v)) := ((List.mergeSort_perm l (leV v)).map _).symm
    have hpw : ((l.mergeSort (leV v)).map (vt v)).Pairwise fun a b => b ≤ a := by
      rw [List.pairwise_map]
      exact sorted_V v l
    have e6 := sure_drop v u.toNat l
    have hlen : ((l.mergeSort (leV v)).map (vt v)).length = l.length := by rw [List.length_map, List.length_mergeSort]
    generalize (l.mergeSort (leV v)).map (vt v) = ds at hsort hpw e6 hlen
    have hll : (((l.map (vt v)).map V.int).length : Int) = l.length := by rw [List.length_map, List.length_map]
    obtain ⟨N, hN, eN⟩ : ∃ N : Nat, (N ≤ l.length ∧ (N : Int) ≤ u ∧ (u < l.length → N = u.toNat) ∧ ((l.length : Int) ≤ u → N = l.length)) ∧ (if (((l.map (vt v)).map V.int).length : Int) < u then (((l.map (vt v)).map V.int).length : Int) else u) = (N : Int) := by
      have := vl.u0
      rw [hll]
      by_cases h : (l.length : Int) < u
      · exact ⟨l.length, ⟨Nat.le_refl _, by omega, fun _ => by omega, fun _ => rfl⟩, by rw [if_pos h]⟩
      · exact ⟨u.toNat, ⟨by omega, by omega, fun _ => rfl, fun _ => by omega⟩, by rw [if_neg h]; omega⟩
    refine ⟨_, rfl, _, rfl, D, _, rfl, .inl (SqL.of hD1), _, _, rfl, ?_⟩
    refine ⟨(N : Int), by rw [eN], by omega, by omega, ?_⟩
    refine for_range (n := N) (fun i σ F => (∃ x4, σ = [some (.ref a), some (.ref b), some (.int u), some (.ref D), x4, none, none]) ∧ Same H F ∧ ∃ ms : Z, F D = some (.lst (ms.map V.int)) ∧ ms.Perm (ds.drop i)) ⟨⟨_, rfl⟩, s1, _, hD1, hsort⟩ ?_ ?_
    · rintro i σ F hi ⟨⟨x4, rfl⟩, s2, ms, hms, pm⟩
      have lm := pm.length_eq
      rw [List.length_drop] at lm
      obtain ⟨d, hd⟩ : ∃ d, ds[i]? = some d := ⟨_, List.getElem?_eq_getElem (by omega)⟩
      have dd : ds.drop i = d :: ds.drop (i + 1) := by
        obtain ⟨h1, h2⟩ := List.getElem?_eq_some_iff.mp hd
        rw [List.drop_eq_getElem_cons h1, h2]; skip
      rw [dd] at pm
      refine ⟨_, rfl, .inl ⟨rfl, _, SqL.of hms⟩, _, rfl, .inl ⟨rfl, _, SqL.of hms⟩, _, rfl, D, rfl, ⟨_, SqL.of hms⟩, fun D2 hD2 => ?_⟩
      refine walk_core (walk_list (K := K) (a := D) (xs := ms.map V.int)) (fun k G2 => Same F G2 ∧ G2 D2 = some (.lst ((ms.take k).map V.int))) ⟨same_up hD2, upd_same⟩ (fun _ _ _ g => SqL.of (g.1 _ _ hms)) ?_ ?_
      · rintro k y G2 G3 hk ⟨s3, h3⟩ ⟨rfl, hy⟩
        obtain ⟨x, hx, rfl⟩ := zV_get hy
        refine ⟨rfl, _, rfl, .inl ⟨_, rfl, _, h3, small1000 (by rw [List.length_map, List.length_take]; omega), sup hD2 s3, ?_⟩⟩
        rw [upd_same, take_next1 hx, List.map_append]
        rfl
      rintro G2 ⟨s3, h3⟩
      rw [List.length_map, List.take_length] at h3
      refine ⟨D2, ms, rfl, SqL.of h3, by omega, fun m hm mx => ?_⟩
      obtain ⟨j, hj, hf⟩ := first_at hm
      have hms2 := s3 _ _ hms
      have jl : j < ms.length := (List.getElem?_eq_some_iff.mp hj).1
      have jV : (ms.map V.int)[j]? = some (.int m) := by rw [List.getElem?_map, hj]; rfl
      have lV : (ms.map V.int).length = ms.length := List.length_map _
      refine ⟨D, ms.map V.int, .int m, j, .int m, rfl, rfl, SqL.of hms2, rfl, flatZ ms, jV, by show (m == m) = true; simp, fun k z' hk hz' => ?_, ?_⟩
      · obtain ⟨x, hx, rfl⟩ := zV_get hz'
        have := hf k x hk hx
        show (x == m) = false
        simpa using this
      have h63 := line63
      refine ⟨D, ms.map V.int, (j : Int), j, .int m, rfl, rfl, hms2, by omega, by omega, ?_, jV, ⟨_, rfl⟩, sup hD (s2.trans s3), ms.eraseIdx j, by rw [upd_same, map_eraseIdx], ?_⟩
      · rw [seqIndex_of (by omega) (by omega)]
        rfl
      · have md : m = d := by
          have h1 : d ≤ m := mx d (pm.mem_iff.mpr List.mem_cons_self)
          rcases List.mem_cons.mp (pm.mem_iff.mp hm) with e | e
          · exact e
          · have h2 : m ≤ d := by
              have p2 := hpw.sublist (List.drop_sublist i ds)
              rw [dd] at p2
              exact (List.pairwise_cons.mp p2).1 m e
            omega
        have pe := ((erase_perm hj).symm.trans pm)
        rw [md] at pe
        exact pe.cons_inv
    · rintro σ F ⟨⟨x4, rfl⟩, s2, ms, hms, pm⟩
      refine ⟨_, rfl, D, ms, rfl, SqL.of hms, ?_⟩
      have e7 : ms.sum = sureP v u.toNat l := by
        rw [e6, perm_sum pm]
        by_cases h : u < l.length
        · rw [hN.2.2.1 h]
        · rw [hN.2.2.2 (by omega), List.drop_of_length_le (by omega), List.drop_of_length_le (by omega)]
      rw [e7]
      exact q F s2
end
end Pl

namespace Pl
open L2 PySem PySem.Spec PyProof.Rows RZ
theorem But.of_ext {z : Addr} {H G : Hp} (s : Same H G) : But z H G := But.of s
theorem Vok.sum9 {v : Z} (h : Vok v) : v.sum ≤ 45 := by
  have key : ∀ {v : Z}, (∀ x ∈ v, 0 ≤ x ∧ x ≤ 9) → v.sum ≤ 9 * v.length := fun {v} => by
    induction v with
    | nil => intro _; simp
    | cons x v ih =>
      intro h
      have h1 := h x List.mem_cons_self
      have h2 := ih fun y hy => h y (List.mem_cons_of_mem _ hy)
      rw [List.sum_cons, List.length_cons]; skip
      omega
  have := key h.rng
  have := h.len
  omega
/-- one of them at least -/
theorem sum_pos {v : Z} {m : Int} (h : ∀ x ∈ v, 0 ≤ x) (hm : m ∈ v) : m ≤ v.sum := by
  induction v with
  | nil => cases hm
  | cons x v ih =>
    rw [List.sum_cons]
    have h0 := h x List.mem_cons_self
    have nn : ∀ v : Z, (∀ x ∈ v, 0 ≤ x) → 0 ≤ v.sum := fun v => by
      induction v with
      | nil => intro _; exact Int.le_refl _
      | cons x v ih =>
        intro h
        rw [List.sum_cons]
        have := h x List.mem_cons_self
        have := ih fun y hy => h y (List.mem_cons_of_mem _ hy)
        omega
    rcases List.mem_cons.mp hm with e | e; skip
    · have := nn v fun y hy => h y (List.mem_cons_of_mem _ hy)
      omega
    · have := ih (fun y hy => h y (List.mem_cons_of_mem _ hy)) e
      omega
theorem map_set (v : Z) (j : Nat) (x : Int) : (v.map V.int).set j (V.int x) = (v.set j x).map V.int := by
  rw [List.map_set]
section
variable {P : Program} {K : PySem.W.Frag} {w : World} {base : Heap} {mg : Str → Option Value}
theorem scLEn : FnScope ["_law_votes_here", "_law_need_here", "_law_unruly_here", "_law_lot"] ["_law_votes_here", "_law_need_here", "_law_unruly_here", "_law_lot"] (defScope sLEnough) := ⟨rfl, rfl, rfl, by decide +kernel, rfl, by decide +kernel, by decide +kernel⟩
theorem ok_len {f : Addr} {fd : FuncData} (F : Fun K "_law_is_enough" "_law_is_enough" sLEnough f fd) (T : Cst mg) (D1 : Df P w K mg base 1 "_law_sure" ["_law_votes_here", "_law_lot", "_law_unruly_here"] spLSure) : FnOk P w K mg base CX0 2 f fd ["_law_votes_here", "_law_need_here", "_law_unruly_here", "_law_lot"] spLEn := by
  obtain ⟨e1, fd1, G1, m1, k1, b1⟩ := D1.ex
  refine F.ok scLEn (fun vs H Q E h => ?_) (fun cdv A outer s0 H vs Q E hr h => ?_)
  · obtain ⟨a, b, v, l, n, u, rfl, _⟩ := h
    rfl
  · obtain ⟨a, b, v, l, n, u, rfl, ha, hb, vl, q⟩ := h
    refine ⟨_, pss_one (ps_ret (pe_cmpR op_gt (pe_call G1 hr (by rfl) m1 k1 b1 .nil pass0 (pa_cons (pv 0) (pa_cons (pv 3) (pa_cons (pv 2) pa_nil)))) (pe_op op_sub (pe_callB (cr_sumT rfl) (by rfl) T.sum_ (by decide +kernel) (pa_cons (pv 0) pa_nil)) (pv 1)) (nomark _))), ?_⟩
    refine ⟨_, rfl, _, rfl, _, rfl, a, b, v, l, u, rfl, ha, hb, vl, fun G s1 => ?_⟩
    refine ⟨_, rfl, a, v, rfl, SqT.of (s1 _ _ ha), _, rfl, rI0_to rfl (rI0_to (v := V.bl (enoughP v n u.toNat l)) rfl (q G s1))⟩
theorem scLAll : FnScope nLA ["_law_many"] (defScope sLAll) := ⟨rfl, rfl, rfl, by decide +kernel, rfl, by decide +kernel, by decide +kernel⟩
theorem ok_lall {f : Addr} {fd : FuncData} (F : Fun K "_law_all_lots" "_law_all_lots" sLAll f fd) (T : Cst mg) : FnOk P w K mg base CX0 1 f fd ["_law_many"] spLAll := by
  refine F.ok scLAll (fun vs H Q E h => ?_) (fun cdv A outer s0 H vs Q E hr h => ?_)
  · obtain ⟨n, rfl, _⟩ := h
    rfl
  · obtain ⟨n, rfl, n0, n5, q⟩ := h
    refine ⟨_, pss_cons (ps_set (i := 1) scLAll.nd rfl (Or.inl rfl) (pe_lst (pa_cons (pe_tup pa_nil) pa_nil)))
      (pss_cons (ps_for PassesOwn.never rfl (pi_range1 rfl T.rng (pa_cons (pv 0) pa_nil)) (pg_name (i := 2) scLAll.nd rfl (Or.inr rfl))
        (pss_one (ps_set (i := 1) scLAll.nd rfl (Or.inl rfl) (pe_op op_cat (pv 1) (pe_lc (own := [("_law_lot", 3)]) (g := gName 3) (tt := tYes) rfl scLAll.nd (pi_list (pv 1)) (blkOk_by (own := [("_law_lot", 3)]) (N := nLA) (sc := defScope sLAll) (by decide +kernel))
          (fun _ _ _ _ _ => pg_name (i := 3) scLAll.nd rfl (Or.inl rfl)) (fun _ _ _ _ _ => pts_nil) (fun _ _ _ _ _ => pe_op (show OpR _ (binaryOp .Add) (rCatA K) from op_catA) (pv 3) (pe_tup (pa_cons (pv 2) pa_nil))))))))
      (pss_one (ps_ret (pv 1)))), ?_⟩
    refine ⟨by show 0 ≤ sizeLine; decide, fun t0 ht0 => ⟨by show 1 ≤ sizeLine; decide, fun p0 hp0 => ?_⟩⟩
    have sA : Same H (upd H t0 (.tup [])) := same_up ht0
    have fA : upd H t0 (.tup []) t0 = some (.tup []) := upd_same
    generalize upd H t0 (.tup []) = G0 at sA fA hp0 ⊢
    have sB : Same G0 (upd G0 p0 (.lst [.ref t0])) := same_up hp0
    have hp : upd G0 p0 (.lst [.ref t0]) p0 = some (.lst [.ref t0]) := upd_same
    have f0 := sB _ _ fA
    have s0 := sA.trans sB
    generalize upd G0 p0 (.lst [.ref t0]) = G1 at s0 hp f0 ⊢
    refine ⟨_, rfl, n, rfl, by omega, by omega, ?_⟩
    refine for_it (walk_range (lo := 0) (n := n.toNat)) (fun i σ G => ∃ d L x3, σ = [some (.int n), some (.ref d), x3, none] ∧ Same H G ∧ Lots G d L ∧ L.map (·.2) = subs ((rgZ n).take i))
      ⟨p0, [(t0, [])], _, rfl, s0, ⟨hp, fun q hq => by
        rw [List.mem_singleton] at hq
        rw [hq]
        exact f0⟩, rfl⟩ (fun _ _ _ _ _ => trivial) ?_ ?_
    · rintro i y σ G G' hi ⟨d, L, x3, rfl, s1, hL, eL⟩ ⟨rfl, rfl⟩
      have hx := rgZ_get hi
      have lL : L.length ≤ 32 := by
        have e := congrArg List.length eL
        rw [List.length_map, subs_len, List.length_take] at e
        rw [e]
        exact pow5 (by omega)
      have lq : ∀ q ∈ L, q.2.length ≤ 5 := fun q hq => by
        have m : q.2 ∈ subs ((rgZ n).take i) := eL ▸ List.mem_map.mpr ⟨q, hq, rfl⟩
        have := (mem_subs.mp m).length_le
        rw [List.length_take] at this
        omega
      refine ⟨_, rfl, _, rfl, d, rfl, ⟨_, SqL.of hL.1⟩, fun D hD => ?_⟩
      refine walk_core (walk_list (K := K) (a := d) (xs := refs L)) (fun j F => ∃ M : List AT, Same G' F ∧ Lots F D M ∧ M.map (·.2) = ((L.take j).map (·.2)).map (· ++ [0 + (i : Int)])) ⟨[], same_up hD, ⟨upd_same, fun q hq => by cases hq⟩, by rw [List.take_zero]; rfl⟩ (fun _ _ _ h => by
        obtain ⟨_, h, _⟩ := h
        exact SqL.of (h _ _ hL.1)) ?_ ?_
      · rintro j y F F' hj ⟨M, s2, hM, eM⟩ ⟨rfl, hy⟩
        obtain ⟨r, hr', rfl⟩ := refs_get hy
        have rL := List.mem_of_getElem? hr'
        have h5 := lq r rL
        refine ⟨rfl, _, rfl, _, rfl, by show 1 ≤ sizeLine; decide, fun t1 ht1 => ?_⟩
        have s3 := same_up (o := .tup [.int (0 + (i : Int))]) ht1
        have f3 : upd F' t1 (.tup [.int (0 + (i : Int))]) t1 = some (.tup [.int (0 + (i : Int))]) := upd_same
        refine cat_any (s3 _ _ (s2 _ _ (hL.2 r rL))) f3 (by rw [List.length_map]; show r.2.length + 1 ≤ 1000; omega) fun p F2 s4 hp2 => ?_
        have s34 := s3.trans s4
        have hA : Lots (upd F2 D (.lst (refs M ++ [.ref p]))) D (M ++ [(p, r.2 ++ [0 + (i : Int)])]) := lots_app (q := (p, r.2 ++ [0 + (i : Int)])) (hM.same s34) (by rw [List.map_append]; exact hp2)
        refine ⟨_, s34 _ _ hM.1, ?_, M ++ [(p, r.2 ++ [0 + (i : Int)])], sup hD (s2.trans s34), hA, ?_⟩
        · have e := congrArg List.length eM
          rw [List.length_map, List.length_map, List.length_map, List.length_take] at e
          exact small1000 (by rw [refs_len]; omega)
        · rw [List.map_append, eM, take_next1 hr', List.map_append, List.map_append]
          rfl
      · rintro F ⟨M, s2, hM, eM⟩
        rw [refs_len, List.take_length] at eM
        have lM : M.length = L.length := by
          have e := congrArg List.length eM
          simpa using e
        have hL2 := hL.same s2
        refine ⟨d, D, _, _, rfl, rfl, hL2.1, hM.1, Nat.le_of_lt (small1000 (by rw [refs_len, refs_len]; omega)), fun p2 hp2 => ?_⟩
        have s5 := same_up (o := .lst (refs L ++ refs M)) hp2
        refine ⟨p2, L ++ M, _, rfl, (s1.trans s2).trans s5, ⟨by rw [upd_same, refs_app], fun q hq => ?_⟩, ?_⟩
        · rcases List.mem_append.mp hq with h | h
          · exact s5 _ _ (hL2.2 q h)
          · exact s5 _ _ (hM.2 q h)
        · rw [List.map_append, eM, take_next1 hx, subs_snoc, eL]
          rfl
    · rintro σ G ⟨d, L, x3, rfl, s1, hL, eL⟩
      rw [← rgZ_len n, List.take_length] at eL
      exact ⟨_, rfl, q d L G s1 hL eL⟩
end
end Pl

namespace Pl
open L2 PySem PySem.Spec PyProof.Rows RZ
theorem Src.ne {z D : Addr} {H : Hp} (h : Src z H) (f : H D = none) : D ≠ z := fun e => by
  obtain ⟨o, ho⟩ := h.some
  rw [e, ho] at f
  cases f
theorem But.fresh {z b : Addr} {H G : Hp} (h : But z H G) (f : G b = none) (n : b ≠ z) : H b = none := by
  cases c : H b with
  | none => rfl
  | some o =>
    rw [h b o n trivial c] at f
    cases f
end Pl

namespace Pl
open L2 PySem PySem.Spec PyProof.Rows
/-- list(e.values()), of a dict whose keys are tuples -/
def tListValsT (te : TE) : TE := fun σ H Q => te σ H fun x H1 => ∃ (d : Addr) (kvs : List (List Key × V)), x = .ref d ∧ H1 d = some (.dT kvs) ∧ ∀ p, H1 p = none → Q (.ref p) (upd H1 p (.lst (kvs.map (·.2))))
theorem kt_at {H : Hp} {kvs : List (List Key × V)} {xs : List (List Key × Addr × Value)} (kt : KT H kvs xs) {i : Nat} {y : List Key × Addr × Value} (h : xs[i]? = some y) : ∃ v, kvs[i]? = some (y.1, v) ∧ RelV v y.2.2 := by
  induction kt generalizing i with
  | nil => simp at h
  | @cons p q ps qs hp t ih =>
    cases i with
    | zero =>
      simp at h
      subst h
      obtain ⟨h1, _, h2⟩ := hp
      exact ⟨p.2, by rw [← h1]; rfl, h2⟩
    | succ i =>
      obtain ⟨v, h1, h2⟩ := ih (i := i) (by simpa using h)
      exact ⟨v, by simpa using h1, h2⟩
theorem pe_listValsT {X : Cx} {e : Expr} {te : TE} {p pos apos cpos : Pos} (hc : X.calm = true) (he : PE X e te) (hg : Gl X "list") (hm : X.mg "list" = none) (hbase : attributeBase e "values" X.env (eval e X.env) = eval e X.env := by rfl) (hline : (apos.endLine == cpos.line) = true := by rfl)
    (hs : starEach [.Call (.Attribute e "values" apos) [] [] cpos] X.env = (false, eval (.Call (.Attribute e "values" apos) [] [] cpos) X.env) :: starEach [] X.env := by rfl) :
    PE X (.Call (.Name "list" p) [.Call (.Attribute e "values" apos) [] [] cpos] [] pos) (tListValsT te) := by
  refine ⟨fun pins s σ H Q I hq => ?_⟩; skip
  refine wpAny_Call_Name_kw (ld_blt I hg hm (by decide +kernel : bootBuiltins "list" = some (.type "list")) ?_)
  refine PyProof.Rows.callWith_type1 ?_ hs rfl; skip
  rw [hs]
  show wpAny _ _ (spliced ((false, eval (.Call (.Attribute e "values" apos) [] [] cpos) X.env) :: backTo pos (starEach [] X.env))) _ _ s
  refine Calls.spliced_cons ?_
  refine wpAny_Call_method (T := "dict") (id := "dict.values") hbase rfl hline F.plainAttrs_dict F.slot_dict_values F.type_dict_values (thn (he.run pins s σ H _ I hq) fun u s1 ⟨x, H1, I1, rx, d, kvs, ex, hd, q⟩ => ?_)
  subst ex
  obtain rfl : u = Value.ref d := rx; skip
  obtain ⟨hz, hs0, xs, kt, hdo⟩ := dt_of I1.hok hd
  obtain ⟨es, ep, hraw, hsz, hat⟩ := hdo.raw
  have I2 : Inv X pins σ H1 { s1 with heap := s1.heap.push { cls := .type "dict_values", data := .fields #[.ref d] } } := I1.kept (t' := s1.toks) fun b ob q => Heap.get?_push_of_some _ q; skip
  have lx : kvs.length = xs.length := Paired.length kt
  refine ⟨hdo.typeIs, ?_, ?_⟩
  · intro b e
    injection e with e
    subst e
    obtain ⟨o, ho, hx, _⟩ := hraw
    exact ⟨o, ho, hx.2.1⟩
  show wpAny _ _ (callWith cpos (.builtin "dict.values") [.ref d] [] []) _ X.xe s1; skip
  refine method_meetsIn F.slot_dict_values F.entry_dict_values rfl (PySem.evalArgs_none ⟨rfl, hdo.typeIs, F.args_dict_values_1 _, _, PySem.meets_dict_values_raw d hs0, ⟨es, ep, hraw⟩, ?_⟩)
  refine Calls.spliced_nil ?_
  refine PySem.W.kdl_call (PySem.KdlSrc.rawValues (es := es) (ep := ep)) (I1.ok.hd hc) ⟨⟨_, Heap.get?_push_size _ rfl, rfl, rfl⟩, hraw.push _⟩ (by omega) fun h' tk acc' c' hk hS hacc => ?_
  refine ⟨.ref _, _, I2.laid (t' := tk) hk (Nat.le_refl _) (show ObjOk X.prog X.w _ _ _ (.lst (kvs.map (·.2))) from ⟨?_, acc'.toList, c', ?_, ?_⟩), rfl, q _ (I2.hok.fresh (Nat.le_refl _))⟩
  · rw [List.length_map]; exact hz
  · have el : acc'.toList.length = acc'.size := by simp; skip
    refine vals_of_at (by rw [List.length_map, el, hacc.1, lx, hsz]) fun j x w h1 h2 => ?_
    obtain ⟨hi, hw⟩ := hacc.2 j w (by rw [← Array.getElem?_toList]; exact h2)
    obtain ⟨y, h3, h4, h5, h6⟩ := hat j hi
    obtain ⟨v, h7, h8⟩ := kt_at kt h3
    rw [List.getElem?_map, h7] at h1
    cases h1
    rw [hw, h5]
    exact h8
  · rw [Array.toArray_toList]; exact hS; skip
end Pl

namespace Pl
open PySem
/-! ### chances, reckoned -/
abbrev Ups := List (Int × Int)
/-- what the copy i gives to the weight of the lot l -/
def fac (U : Ups) (l : Z) (i : Nat) : Int := if has l (0 + (i : Int)) = true then (U.getD i (0, 0)).1 else (U.getD i (0, 0)).2 - (U.getD i (0, 0)).1
def wtN (U : Ups) (l : Z) : Nat → Int
  | 0 => 1
  | i + 1 => wtN U l i * fac U l i
def botN (U : Ups) : Nat → Int
  | 0 => 1
  | i + 1 => botN U i * (U.getD i (0, 0)).2
/-- chances of small parts -/
def Upok (U : Ups) : Prop := U.length ≤ 5 ∧ ∀ p ∈ U, 0 ≤ p.1 ∧ p.1 ≤ p.2 ∧ 1 ≤ p.2 ∧ p.2 ≤ 6 ∧ Nat.gcd p.1.natAbs p.2.natAbs = 1
theorem Upok.at {U : Ups} (h : Upok U) (i : Nat) : 0 ≤ (U.getD i (0, 0)).1 ∧ (U.getD i (0, 0)).1 ≤ (U.getD i (0, 0)).2 ∧ (U.getD i (0, 0)).2 ≤ 6 := by
  rw [List.getD_eq_getElem?_getD]; skip
  cases e : U[i]? with
  | none => decide
  | some p =>
    obtain ⟨a, b, _, c, _⟩ := h.2 p (List.mem_of_getElem? e)
    exact ⟨a, b, c⟩
theorem fac_b {U : Ups} (h : Upok U) (l : Z) (i : Nat) : 0 ≤ fac U l i ∧ fac U l i ≤ 6 := by
  obtain ⟨a, b, c⟩ := h.at i
  unfold fac
  split <;> omega
theorem pow_step {x f : Int} {n : Nat} (a : 0 ≤ x) (b : x ≤ (6 : Int) ^ n) (c : 0 ≤ f) (d : f ≤ 6) : 0 ≤ x * f ∧ x * f ≤ (6 : Int) ^ (n + 1) := by
  refine ⟨Int.mul_nonneg a c, ?_⟩
  rw [Int.pow_succ]
  exact Int.mul_le_mul b d c (Int.le_trans a b)
theorem wtN_b {U : Ups} (h : Upok U) (l : Z) : ∀ n : Nat, 0 ≤ wtN U l n ∧ wtN U l n ≤ (6 : Int) ^ n
  | 0 => by
    show (0 : Int) ≤ 1 ∧ (1 : Int) ≤ 6 ^ 0
    decide
  | n + 1 => by
    obtain ⟨a, b⟩ := wtN_b h l n
    obtain ⟨c, d⟩ := fac_b h l n
    exact pow_step a b c d
theorem pow4 {n : Nat} (h : n ≤ 5) : (6 : Int) ^ n ≤ 7776 := by
  have : n = 0 ∨ n = 1 ∨ n = 2 ∨ n = 3 ∨ n = 4 ∨ n = 5 := by omega
  rcases this with rfl | rfl | rfl | rfl | rfl | rfl <;> decide
theorem wtN_s {U : Ups} (h : Upok U) (l : Z) {n : Nat} (hn : n ≤ 5) : 0 ≤ wtN U l n ∧ wtN U l n ≤ 7776 := ⟨(wtN_b h l n).1, Int.le_trans (wtN_b h l n).2 (pow4 hn)⟩
theorem botN_b {U : Ups} (h : Upok U) : ∀ n : Nat, n ≤ U.length → 1 ≤ botN U n ∧ botN U n ≤ (6 : Int) ^ n
  | 0, _ => by
    show (1 : Int) ≤ 1 ∧ (1 : Int) ≤ 6 ^ 0
    decide
  | n + 1, hn => by
    obtain ⟨a, b⟩ := botN_b h n (by omega)
    obtain ⟨p, hp⟩ : ∃ p, U[n]? = some p := ⟨_, List.getElem?_eq_getElem (by omega)⟩
    obtain ⟨_, _, c, d, _⟩ := h.2 p (List.mem_of_getElem? hp)
    have e : (U.getD n (0, 0)).2 = p.2 := by rw [List.getD_eq_getElem?_getD, hp]; rfl
    show 1 ≤ botN U n * (U.getD n (0, 0)).2 ∧ botN U n * (U.getD n (0, 0)).2 ≤ _
    rw [e]
    refine ⟨?_, (pow_step (by omega) b (by omega) d).2⟩
    have := Int.mul_le_mul a c (by omega) (by omega)
    omega
theorem rgZ_succ (n : Nat) : rgZ ((n + 1 : Nat) : Int) = rgZ (n : Int) ++ [0 + (n : Int)] := by
  unfold rgZ
  rw [show (((n + 1 : Nat) : Int)).toNat = n + 1 from rfl, show ((n : Int)).toNat = n from rfl, List.range_succ, List.map_append]
  rfl
theorem has_out {n : Nat} {l : Z} (h : Lot n l) : has l (0 + (n : Int)) = false := by
  rw [← Bool.not_eq_true, has_iff]
  intro z
  have := h.2 _ z
  omega
theorem wtN_app {U : Ups} {l : Z} {m : Nat} : ∀ n : Nat, n ≤ m → wtN U (l ++ [0 + (m : Int)]) n = wtN U l n
  | 0, _ => rfl
  | n + 1, h => by
    have e : has (l ++ [0 + (m : Int)]) (0 + (n : Int)) = has l (0 + (n : Int)) := by
      rw [Bool.eq_iff_iff, has_iff, has_iff, List.mem_append, List.mem_singleton]
      constructor
      · rintro (h | h)
        · exact h
        · omega
      · exact .inl
    show wtN U _ n * fac U _ n = wtN U l n * fac U l n
    rw [wtN_app n (by omega)]
    unfold fac
    rw [e]
theorem sum_mulr (f : Z → Int) (c : Int) : ∀ ls : List Z, (ls.map fun l => f l * c).sum = (ls.map f).sum * c
  | [] => by simp
  | l :: ls => by
    rw [List.map_cons, List.map_cons, List.sum_cons, List.sum_cons, sum_mulr f c ls, Int.add_mul]
/-- all weights together -/
theorem whole (U : Ups) : ∀ n : Nat, ((subs (rgZ (n : Int))).map fun l => wtN U l n).sum = botN U n
  | 0 => rfl
  | n + 1 => by
    have fl : ∀ l ∈ subs (rgZ (n : Int)), Lot n l := fun l hl => (rgZ_lot _).sub (mem_subs.mp hl)
    rw [rgZ_succ, subs_snoc]
    unfold stepS
    rw [List.map_append, List.sum_append, List.map_map]
    have e1 : ((subs (rgZ (n : Int))).map fun l => wtN U l (n + 1)) = (subs (rgZ (n : Int))).map fun l => wtN U l n * ((U.getD n (0, 0)).2 - (U.getD n (0, 0)).1) := by
      refine List.map_congr_left fun l hl => ?_
      show wtN U l n * fac U l n = _
      unfold fac
      rw [has_out (fl l hl), if_neg (by decide)]
    have e2 : ((subs (rgZ (n : Int))).map ((fun l => wtN U l (n + 1)) ∘ fun x => x ++ [0 + (n : Int)])) = (subs (rgZ (n : Int))).map fun l => wtN U l n * (U.getD n (0, 0)).1 := by
      refine List.map_congr_left fun l hl => ?_
      show wtN U (l ++ [0 + (n : Int)]) n * fac U (l ++ [0 + (n : Int)]) n = _
      rw [wtN_app n (Nat.le_refl _)]
      unfold fac
      rw [show has (l ++ [0 + (n : Int)]) (0 + (n : Int)) = true from has_iff.mpr (List.mem_append_right _ List.mem_cons_self), if_pos rfl]
    rw [e1, e2, sum_mulr (fun l => wtN U l n), sum_mulr (fun l => wtN U l n), whole U n, ← Int.mul_add]
    show _ = botN U n * _
    congr 1
    omega
/-- lowered -/
def lowZ (a b : Int) : Int × Int := (a / ((Nat.gcd a.natAbs b.natAbs : Nat) : Int), b / ((Nat.gcd a.natAbs b.natAbs : Nat) : Int))
theorem gcd_pos {a b : Int} (h : 0 < b) : 0 < ((Nat.gcd a.natAbs b.natAbs : Nat) : Int) := by
  have := Nat.gcd_pos_of_pos_right a.natAbs (n := b.natAbs) (by omega)
  omega
/-- the sum over those picked -/
theorem sum_pick (f : Z → Int) (p : Z → Bool) : ∀ ls : List Z, (ls.map fun l => f l * (if p l = true then 1 else 0)).sum = ((ls.filter p).map f).sum
  | [] => rfl
  | l :: ls => by
    rw [List.map_cons, List.sum_cons, sum_pick f p ls, List.filter_cons]
    by_cases h : p l = true
    · rw [if_pos h, if_pos h, List.map_cons, List.sum_cons]
      omega
    · rw [if_neg h, if_neg h]
      omega
theorem sum_parts (f : Z → Int) (p : Z → Bool) (u : Z) : (((parts u).filter p).map f).sum = (((subs u).filter p).map f).sum := perm_sum (((parts_perm u).filter p).map f)
theorem low_small {t b : Int} (t0 : 0 ≤ t) (tb : t ≤ b) (b1 : 1 ≤ b) (b6 : b ≤ 6) : 0 ≤ (lowZ t b).1 ∧ (lowZ t b).1 ≤ (lowZ t b).2 ∧ 1 ≤ (lowZ t b).2 ∧ (lowZ t b).2 ≤ 6 ∧ Nat.gcd (lowZ t b).1.natAbs (lowZ t b).2.natAbs = 1 := by
  have h : ∀ b : Nat, b ≤ 6 → ∀ t : Nat, t ≤ b → 1 ≤ b → 0 ≤ (lowZ t b).1 ∧ (lowZ t b).1 ≤ (lowZ t b).2 ∧ 1 ≤ (lowZ t b).2 ∧ (lowZ t b).2 ≤ 6 ∧ Nat.gcd (lowZ t b).1.natAbs (lowZ t b).2.natAbs = 1 := by
    intro b hb
    have : b = 0 ∨ b = 1 ∨ b = 2 ∨ b = 3 ∨ b = 4 ∨ b = 5 ∨ b = 6 := by omega
    rcases this with rfl | rfl | rfl | rfl | rfl | rfl | rfl <;> decide +kernel
  have := h b.toNat (by omega) t.toNat (by omega) (by omega)
  rwa [show ((b.toNat : Nat) : Int) = b by omega, show ((t.toNat : Nat) : Int) = t by omega] at this
end Pl

namespace Pl
open L2 PySem PySem.Spec PyProof.Rows RZ
theorem kitAny_no {K : PySem.W.Frag} {kd : String} (nl : PySem.W.kitOne K (.type kd) (.type "list") = some false) (nt : PySem.W.kitOne K (.type kd) (.type "tuple") = some false) : PySem.W.kitAny K (.type kd) [.type "list", .type "tuple"] = some false := by
  unfold PySem.W.kitAny
  rw [nl]
  show PySem.W.kitAny K (.type kd) [.type "tuple"] = some false
  unfold PySem.W.kitAny
  rw [nt]
  rfl
theorem kitAny_l {K : PySem.W.Frag} : PySem.W.kitAny K (.type "list") [.type "list", .type "tuple"] = some true := by
  unfold PySem.W.kitAny
  rw [show PySem.W.kitOne K (.type "list") (.type "list") = some true from kit_ty (show kitB "list" "list" = some true from by decide +kernel)]
theorem kitAny_t {K : PySem.W.Frag} : PySem.W.kitAny K (.type "tuple") [.type "list", .type "tuple"] = some true := by
  unfold PySem.W.kitAny
  rw [show PySem.W.kitOne K (.type "tuple") (.type "list") = some false from kit_ty (show kitB "tuple" "list" = some false from by decide +kernel)]
  show PySem.W.kitAny K (.type "tuple") [.type "tuple"] = some true
  unfold PySem.W.kitAny
  rw [show PySem.W.kitOne K (.type "tuple") (.type "tuple") = some true from kit_ty (show kitB "tuple" "tuple" = some true from by decide +kernel)]
abbrev OL := Option (List PyData)
inductive TzL (K : PySem.W.Frag) (H : Hp) : List V → List OL → Prop
  | nil : TzL K H [] []
  | cons {v : V} {o : OL} {vs : List V} {os : List OL} (a : Tz K H v o) (t : TzL K H vs os) : TzL K H (v :: vs) (o :: os)
theorem TzL.at {K : PySem.W.Frag} {H : Hp} : ∀ {vs : List V} {os : List OL} {i : Nat} {v : V}, TzL K H vs os → vs[i]? = some v → ∃ o, os[i]? = some o ∧ Tz K H v o
  | _, _, _, _, .nil, e => absurd e (by simp)
  | _, _, 0, _, .cons a _, e => by simp at e; subst e; exact ⟨_, rfl, a⟩
  | _, _, i + 1, _, .cons _ t, e => by
    obtain ⟨d, h1, h2⟩ := TzL.at (i := i) t (by simpa using e)
    exact ⟨d, by simpa using h1, h2⟩
theorem TzL.len {K : PySem.W.Frag} {H : Hp} : ∀ {vs : List V} {os : List OL}, TzL K H vs os → vs.length = os.length
  | _, _, .nil => rfl
  | _, _, .cons _ t => congrArg Nat.succ t.len
theorem TzL.same {K : PySem.W.Frag} {H G : Hp} (s : Same H G) : ∀ {vs : List V} {os : List OL}, TzL K H vs os → TzL K G vs os
  | _, _, .nil => .nil
  | _, _, .cons a t => .cons (a.same s) (t.same s)
/-- what is handed in as lots -/
inductive Wz (K : PySem.W.Frag) (H : Hp) : V → Option (List OL) → Prop
  | no {v : V} {kd : String} (t : ∀ G, Same H G → TyX K G v (.type kd)) (nl : PySem.W.kitOne K (.type kd) (.type "list") = some false) (nt : PySem.W.kitOne K (.type kd) (.type "tuple") = some false) : Wz K H v none
  | lst {a : Addr} {vs : List V} {os : List OL} (h : H a = some (.lst vs)) (m : TzL K H vs os) : Wz K H (.ref a) (some os)
  | tup {a : Addr} {vs : List V} {os : List OL} (h : H a = some (.tup vs)) (m : TzL K H vs os) : Wz K H (.ref a) (some os)
theorem Wz.same {K : PySem.W.Frag} {H G : Hp} {v : V} {o : Option (List OL)} (h : Wz K H v o) (s : Same H G) : Wz K G v o := by
  cases h with
  | no t nl nt => exact .no (fun F x => t F (s.trans x)) nl nt
  | lst h m => exact .lst (s _ _ h) (m.same s)
  | tup h m => exact .tup (s _ _ h) (m.same s)
def pr : OL → Int × Int
  | some [d, e] => (toI d, toI e)
  | _ => (0, 0)
def ratT : OL → Bool
  | some [d, e] => isNum d && (isNum e && (decide (0 < toI e) && decide (((Nat.gcd (toI d).natAbs (toI e).natAbs : Nat) : Int) = 1)))
  | _ => false
def smaT (o : OL) : Bool := ratT o && (decide ((pr o).1 ≤ 20) && decide ((pr o).2 ≤ 20))
def chaT (o : OL) : Bool := smaT o && (decide (0 ≤ (pr o).1) && decide ((pr o).1 ≤ (pr o).2))
def areT : Option (List OL) → Bool
  | none => false
  | some os => os.all chaT
theorem num_int {v : V} {d : PyData} (f : Fl v d) (h : isNum d = true) : v = .int (toI d) ∧ d = .int (toI d) := by
  cases f with
  | int i => exact ⟨rfl, rfl⟩
  | non => cases h
  | bl b => cases h
  | str x => cases h
theorem rat_inv {K : PySem.W.Frag} {H : Hp} {v : V} {o : OL} (z : Tz K H v o) (h : ratT o = true) : ∃ (a : Addr) (t b : Int), v = .ref a ∧ H a = some (.tup [.int t, .int b]) ∧ pr o = (t, b) := by
  cases z with
  | no t nt => cases h
  | @tup a vs ds ha m l =>
    match vs, ds, m, h with
    | [x, y], [d, e], .cons f (.cons g .nil), h =>
      have h' : (isNum d && (isNum e && (decide (0 < toI e) && decide (((Nat.gcd (toI d).natAbs (toI e).natAbs : Nat) : Int) = 1)))) = true := h
      rw [Bool.and_eq_true, Bool.and_eq_true] at h'; skip
      obtain ⟨rfl, h1⟩ := num_int f h'.1
      obtain ⟨rfl, h2⟩ := num_int g h'.2.1
      exact ⟨a, toI d, toI e, rfl, ha, rfl⟩
    | [], [], _, h => cases h
    | [_], [_], _, h => cases h
    | _ :: _ :: _ :: _, _ :: _ :: _ :: _, _, h => cases h
def spRat (K : PySem.W.Frag) (T : OL → Bool) : Sp := fun vs H Q _ => ∃ (v : V) (o : OL), vs = [v] ∧ Tz K H v o ∧ ∀ G, Same H G → Q (.bl (T o)) G
def spAre (K : PySem.W.Frag) : Sp := fun vs H Q _ => ∃ (v : V) (o : Option (List OL)), vs = [v] ∧ Wz K H v o ∧ (∀ os, o = some os → os.length ≤ 100) ∧ ∀ G, Same H G → Q (.bl (areT o)) G
def spLow : Sp := fun vs H Q _ => ∃ (a b : Int), vs = [.int a, .int b] ∧ 0 < b ∧ b ≤ 1000000 ∧ ∀ p G, Same H G → H p = none → G p = some (.tup [.int (lowZ a b).1, .int (lowZ a b).2]) → Q (.ref p) G
section
variable {P : Program} {K : PySem.W.Frag} {w : World} {base : Heap} {mg : Str → Option Value}
theorem scRat : FnScope ["value", "top", "bottom"] ["value"] (defScope sIsRatio) := ⟨rfl, rfl, rfl, by decide +kernel, rfl, by decide +kernel, by decide +kernel⟩
theorem ok_rat {f : Addr} {fd : FuncData} (F : Fun K "is_ratio" "is_ratio" sIsRatio f fd) (T : Cst mg) (D1 : Df P w K mg base 1 "is_number" ["value"] spN) : FnOk P w K mg base CX0 2 f fd ["value"] (spRat K ratT) := by
  obtain ⟨e1, fd1, G1, m1, k1, b1⟩ := D1.ex
  refine F.ok scRat (fun vs H Q E h => ?_) (fun cdv A outer s0 H vs Q E hr h => ?_)
  · obtain ⟨v, o, rfl, _⟩ := h
    rfl
  · obtain ⟨v, o, rfl, hz, q⟩ := h
    refine ⟨_, pss_cons (ps_if (PW.pt (pw_or (pt_not (pt_val (pe_callB call_isi (by rfl) T.isi (by decide +kernel) (pa_cons (pv 0) (pa_cons (pe_bltn (v := .ty "tuple") (by rfl) T.ttup (by decide +kernel) rfl) pa_nil)))))
        (pw_or1 (pt_cmpR op_ne (pe_callB (show CallR _ (.builtin "len") (rLenQ K) from call_len_seq) (by rfl) T.len PySem.boot_len (pa_cons (pv 0) pa_nil)) pe_int (nomark _)))))
        (pss_one (ps_ret pe_bl)) pss_nil)
      (pss_cons (ps_asg (pv 0) (pg_tup rfl (pgs_cons (pg_name (i := 1) scRat.nd rfl (Or.inl rfl)) (pgs_cons (pg_name (i := 2) scRat.nd rfl (Or.inl rfl)) pgs_nil))))
      (pss_one (ps_ret (pe_and (pe_call G1 hr (by rfl) m1 k1 b1 .nil pass0 (pa_cons (pv 1) pa_nil)) (pe_and (pe_call G1 hr (by rfl) m1 k1 b1 .nil pass0 (pa_cons (pv 2) pa_nil)) (pe_and (pe_cmpR op_gt (pv 2) pe_int (nomark _)) (pe_one (pe_cmpR op_eq (pe_callBfun cr_gcd (by rfl) T.gcd (pa_cons (pv 1) (pa_cons (pv 2) pa_nil))) pe_int (nomark _))))))))), ?_⟩
    cases hz with
    | no t nt => exact ⟨v, rfl, v, _, _, _, _, rfl, .ty _, t _ (fun _ _ e => e), nt, _, rfl, iteT (iteT (q _ (fun _ _ e => e)))⟩
    | @tup a vs ds h m l =>
      refine ⟨.ref a, rfl, .ref a, _, _, _, _, rfl, .ty _, .base (.tup h), (kit_ty (show kitB "tuple" "tuple" = some true from by decide +kernel)), _, rfl, iteF ?_⟩
      refine ⟨_, rfl, a, _, rfl, .inr (SqT.of h), rfl, _, rfl, ?_⟩
      match vs, ds, m, q, h with
      | [], [], _, q, h => exact iteT (q _ fun _ _ e => e)
      | [_], [_], _, q, h => exact iteT (q _ fun _ _ e => e)
      | _ :: _ :: _ :: ws, _ :: _ :: _ :: _, _, q, h =>
        refine ite2 (fun _ => q _ fun _ _ e => e) fun e => absurd (show (!decide (V.int ((ws.length + 1 + 1 + 1 : Nat) : Int) = V.int 2)) = true from ?_) e
        rw [intEq, decide_eq_false (by omega)]
        rfl
      | [x, y], [d, e], .cons f (.cons g .nil), q, h =>
        refine iteF ?_
        refine ⟨_, rfl, a, _, rfl, SqT.of h, rfl, _, _, rfl, _, _, rfl, rfl, ?_⟩
        have q2 : Q (.bl (isNum d && (isNum e && (decide (0 < toI e) && decide (((Nat.gcd (toI d).natAbs (toI e).natAbs : Nat) : Int) = 1))))) H := q H fun _ _ e => e
        refine ⟨x, rfl, x, d, rfl, .fl f, ⟨_, rfl, ?_⟩⟩
        refine ite2 (fun e1 => ?_) fun e1 => ?_
        · rw [e1, Bool.true_and] at q2
          refine ⟨y, rfl, y, e, rfl, .fl g, ⟨_, rfl, ?_⟩⟩
          refine ite2 (fun e2 => ?_) fun e2 => ?_
          · rw [e2, Bool.true_and] at q2
            obtain ⟨rfl, h1⟩ := num_int f e1
            obtain ⟨rfl, h2⟩ := num_int g e2
            refine ⟨_, rfl, _, _, rfl, rfl, ⟨_, rfl, ?_⟩⟩
            refine ite2 (fun e3 => ?_) fun e3 => ?_
            · rw [show decide (0 < toI e) = true from e3, Bool.true_and] at q2
              refine ⟨_, rfl, _, rfl, _, _, rfl, rfl, ?_⟩; skip
              rw [intEq]
              exact q2
            · rw [show decide (0 < toI e) = false from Bool.eq_false_iff.mpr e3, Bool.false_and] at q2
              exact q2
          · rw [show isNum e = false from Bool.eq_false_iff.mpr e2, Bool.false_and] at q2
            exact q2
        · rw [show isNum d = false from Bool.eq_false_iff.mpr e1, Bool.false_and] at q2
          exact q2
theorem scSma : FnScope ["value"] ["value"] (defScope sIsSmall) := ⟨rfl, rfl, rfl, by decide +kernel, rfl, by decide +kernel, by decide +kernel⟩
theorem ok_sma {f : Addr} {fd : FuncData} (F : Fun K "_is_small" "_is_small" sIsSmall f fd) (T : Cst mg) (D1 : Df P w K mg base 2 "is_ratio" ["value"] (spRat K ratT)) : FnOk P w K mg base CX0 3 f fd ["value"] (spRat K smaT) := by
  obtain ⟨e1, fd1, G1, m1, k1, b1⟩ := D1.ex
  obtain ⟨t20, h20⟩ := T.gr
  refine F.ok scSma (fun vs H Q E h => ?_) (fun cdv A outer s0 H vs Q E hr h => ?_)
  · obtain ⟨v, o, rfl, _⟩ := h
    rfl
  · obtain ⟨v, o, rfl, hz, q⟩ := h
    refine ⟨_, pss_one (ps_ret (pe_and (pe_call G1 hr (by rfl) m1 k1 b1 .nil pass0 (pa_cons (pv 0) pa_nil)) (pe_and (pe_cmpR op_le (pe_ix (show IxR _ (rIxT K) from ix_tup) (pv 0) pe_int (fun _ _ => rfl)) (pe_glob (v := .int 20) (by rfl) h20 ⟨_, rfl⟩) (nomark _)) (pe_one (pe_cmpR op_le (pe_ix (show IxR _ (rIxT K) from ix_tup) (pv 0) pe_int (fun _ _ => rfl)) (pe_glob (v := .int 20) (by rfl) h20 ⟨_, rfl⟩) (nomark _)))))), ?_⟩
    refine ⟨v, rfl, v, o, rfl, hz, fun G s1 => ⟨_, rfl, ?_⟩⟩
    have q2 : Q (.bl (ratT o && (decide ((pr o).1 ≤ 20) && decide ((pr o).2 ≤ 20)))) G := q G s1
    refine ite2 (fun e1 => ?_) fun e1 => ?_
    · obtain ⟨a, t, b, rfl, ha, ep⟩ := rat_inv hz e1
      rw [e1, Bool.true_and, ep] at q2
      refine ⟨_, rfl, a, _, _, .int t, rfl, rfl, SqT.of (s1 _ _ ha), atI_nat (j := 0) rfl, _, _, rfl, rfl, _, rfl, ?_⟩
      refine ite2 (fun e2 => ?_) fun e2 => ?_
      · rw [show decide (t ≤ 20) = true from e2, Bool.true_and] at q2
        exact ⟨_, rfl, a, _, _, .int b, rfl, rfl, SqT.of (s1 _ _ ha), atI_nat (j := 1) rfl, _, _, rfl, rfl, q2⟩
      · rw [show decide (t ≤ 20) = false from Bool.eq_false_iff.mpr e2, Bool.false_and] at q2
        exact q2
    · rw [show ratT o = false from Bool.eq_false_iff.mpr e1, Bool.false_and] at q2
      exact q2
theorem scCha : FnScope ["value"] ["value"] (defScope sIsChance) := ⟨rfl, rfl, rfl, by decide +kernel, rfl, by decide +kernel, by decide +kernel⟩
theorem ok_cha {f : Addr} {fd : FuncData} (F : Fun K "is_chance" "is_chance" sIsChance f fd) (D1 : Df P w K mg base 3 "_is_small" ["value"] (spRat K smaT)) : FnOk P w K mg base CX0 4 f fd ["value"] (spRat K chaT) := by
  obtain ⟨e1, fd1, G1, m1, k1, b1⟩ := D1.ex
  refine F.ok scCha (fun vs H Q E h => ?_) (fun cdv A outer s0 H vs Q E hr h => ?_)
  · obtain ⟨v, o, rfl, _⟩ := h
    rfl
  · obtain ⟨v, o, rfl, hz, q⟩ := h
    refine ⟨_, pss_one (ps_ret (pe_and (pe_call G1 hr (by rfl) m1 k1 b1 .nil pass0 (pa_cons (pv 0) pa_nil)) (pe_one (pe_chain op_le op_le pe_int (pe_ix (show IxR _ (rIxT K) from ix_tup) (pv 0) pe_int (fun _ _ => rfl)) (pe_ix (show IxR _ (rIxT K) from ix_tup) (pv 0) pe_int (fun _ _ => rfl)))))), ?_⟩
    refine ⟨v, rfl, v, o, rfl, hz, fun G s1 => ⟨_, rfl, ?_⟩⟩
    have q2 : Q (.bl (smaT o && (decide (0 ≤ (pr o).1) && decide ((pr o).1 ≤ (pr o).2)))) G := q G s1
    refine ite2 (fun e1 => ?_) fun e1 => ?_
    · have e0 : ratT o = true := by
        have h : (ratT o && (decide ((pr o).1 ≤ 20) && decide ((pr o).2 ≤ 20))) = true := e1
        rw [Bool.and_eq_true] at h
        exact h.1
      obtain ⟨a, t, b, rfl, ha, ep⟩ := rat_inv hz e0
      rw [e1, Bool.true_and, ep] at q2
      refine ⟨_, rfl, a, _, _, .int t, rfl, rfl, SqT.of (s1 _ _ ha), atI_nat (j := 0) rfl, _, _, rfl, rfl, _, rfl, ?_⟩
      refine ite2 (fun e2 => ?_) fun e2 => ?_
      · rw [show decide (0 ≤ t) = true from e2, Bool.true_and] at q2
        exact ⟨_, rfl, a, _, _, .int b, rfl, rfl, SqT.of (s1 _ _ ha), atI_nat (j := 1) rfl, _, _, rfl, rfl, q2⟩
      · rw [show decide (0 ≤ t) = false from Bool.eq_false_iff.mpr e2, Bool.false_and] at q2
        exact q2
    · rw [show smaT o = false from Bool.eq_false_iff.mpr e1, Bool.false_and] at q2
      exact q2
theorem scLow : FnScope ["top", "bottom", "shared"] ["top", "bottom"] (defScope sLowered) := ⟨rfl, rfl, rfl, by decide +kernel, rfl, by decide +kernel, by decide +kernel⟩
theorem ok_low {f : Addr} {fd : FuncData} (F : Fun K "lowered" "lowered" sLowered f fd) (T : Cst mg) : FnOk P w K mg base CX0 1 f fd ["top", "bottom"] spLow := by
  refine F.ok scLow (fun vs H Q E h => ?_) (fun cdv A outer s0 H vs Q E hr h => ?_)
  · obtain ⟨a, b, rfl, _⟩ := h
    rfl
  · obtain ⟨a, b, rfl, b0, b1, q⟩ := h
    refine ⟨_, pss_cons (ps_set (i := 2) scLow.nd rfl (Or.inl rfl) (pe_callBfun cr_gcd (by rfl) T.gcd (pa_cons (pv 0) (pa_cons (pv 1) pa_nil))))
      (pss_one (ps_ret (pe_tup (pa_cons (pe_op op_fdiv (pv 0) (pv 2)) (pa_cons (pe_op op_fdiv (pv 1) (pv 2)) pa_nil))))), ?_⟩
    have g0 := gcd_pos (a := a) b0
    have g1 : ((Nat.gcd a.natAbs b.natAbs : Nat) : Int) ≤ b := by
      have := Nat.gcd_le_right a.natAbs (n := b.natAbs) (by omega)
      omega
    refine ⟨_, rfl, _, rfl, a, b, rfl, ?_⟩
    refine ⟨_, rfl, _, rfl, _, _, rfl, rfl, ⟨g0, by omega⟩, ?_⟩
    refine ⟨_, rfl, _, rfl, _, _, rfl, rfl, ⟨g0, by omega⟩, by show 2 ≤ sizeLine; decide, fun p hp => ?_⟩
    exact q p _ (same_up hp) hp upd_same
theorem scAreC : FnScope ["value", "chance"] ["value"] (defScope sAreCh) := ⟨rfl, rfl, rfl, by decide +kernel, rfl, by decide +kernel, by decide +kernel⟩
theorem ok_are {f : Addr} {fd : FuncData} (F : Fun K "_are_chances" "_are_chances" sAreCh f fd) (T : Cst mg) (D1 : Df P w K mg base 4 "is_chance" ["value"] (spRat K chaT)) : FnOk P w K mg base CX0 5 f fd ["value"] (spAre K) := by
  obtain ⟨e1, fd1, G1, m1, k1, b1⟩ := D1.ex
  refine F.ok scAreC (fun vs H Q E h => ?_) (fun cdv A outer s0 H vs Q E hr h => ?_)
  · obtain ⟨v, o, rfl, _⟩ := h
    rfl
  · obtain ⟨v, o, rfl, hz, l100, q⟩ := h
    refine ⟨_, pss_one (ps_ret (pe_and (pe_callB call_isiT (by rfl) T.isi (by decide +kernel) (pa_cons (pv 0) (pa_cons (pe_tup (pa_cons (pe_bltn (v := .ty "list") (by rfl) T.tlst (by decide +kernel) rfl) (pa_cons (pe_bltn (v := .ty "tuple") (by rfl) T.ttup (by decide +kernel) rfl) pa_nil))) pa_nil)))
      (pe_one (pe_callB (cr_all rfl) (by rfl) T.all_ (by decide +kernel) (pa_cons (pe_lc (own := [("chance", 1)]) (g := gName 1) (tt := tYes) rfl scAreC.nd (pi_or (pi_list (pv 0)) (pi_tup (pv 0))) (blkOk_by (own := [("chance", 1)]) (N := ["value", "chance"]) (sc := defScope sAreCh) (by decide +kernel))
          (fun _ _ _ _ _ => pg_name (i := 1) scAreC.nd rfl (Or.inl rfl)) (fun _ _ _ _ _ => pts_nil) (fun _ _ _ _ _ => pe_call G1 (hr.mono (by decide)) (by rfl) m1 k1 b1 .nil pass0 (pa_cons (pv 1) pa_nil))) pa_nil))))), ?_⟩
    refine ⟨v, rfl, by show 2 ≤ sizeLine; decide, fun tq htq => ?_⟩
    have s2 := same_up (o := .tup [.ty "list", .ty "tuple"]) htq
    have fq : upd H tq (.tup [.ty "list", .ty "tuple"]) tq = some (.tup [.ty "list", .ty "tuple"]) := upd_same
    generalize upd H tq (.tup [.ty "list", .ty "tuple"]) = Gb at s2 fq ⊢
    cases hz with
    | no ty nl nt => exact ⟨v, tq, _, _, _, _, rfl, fq, .cons (.ty _) (.cons (.ty _) .nil), ty _ s2, kitAny_no nl nt, _, rfl, q _ s2⟩
    | @lst a vs os h m =>
      have lm := m.len
      have l1 := l100 os rfl
      refine ⟨.ref a, tq, _, _, _, _, rfl, fq, .cons (.ty _) (.cons (.ty _) .nil), .base (.lst (s2 _ _ h)), kitAny_l, _, rfl, ?_⟩
      refine iteT (.inl ⟨_, rfl, a, rfl, ⟨_, SqL.of (s2 _ _ h)⟩, fun D hD => ?_⟩)
      refine walk_core (walk_list (K := K) (a := a) (xs := vs)) (fun i G => Same Gb G ∧ G D = some (.lst (((os.take i).map chaT).map V.bl))) ⟨same_up hD, upd_same⟩ (fun _ _ _ g => SqL.of (g.1 _ _ (s2 _ _ h))) ?_ ?_
      · rintro i y G G' hi ⟨s1, hD1⟩ ⟨rfl, hy⟩
        obtain ⟨o, ho, tz⟩ := m.at hy
        refine ⟨rfl, _, rfl, _, o, rfl, tz.same (s2.trans s1), fun G2 s3 => ?_⟩
        refine ⟨_, s3 _ _ hD1, small1000 (by rw [List.length_map, List.length_map, List.length_take]; omega), sup hD (s1.trans s3), ?_⟩
        rw [upd_same, take_next1 ho, List.map_append, List.map_append]
        rfl
      · rintro G ⟨s1, hD1⟩
        rw [lm, List.take_length] at hD1
        refine ⟨D, _, rfl, SqL.of hD1, ?_⟩
        have ea : ((os.map chaT).all id) = os.all chaT := by
          rw [List.all_map]
          rfl
        rw [ea]
        exact q _ (s2.trans s1)
    | @tup a vs os h m =>
      have lm := m.len
      have l1 := l100 os rfl
      refine ⟨.ref a, tq, _, _, _, _, rfl, fq, .cons (.ty _) (.cons (.ty _) .nil), .base (.tup (s2 _ _ h)), kitAny_t, _, rfl, ?_⟩
      refine iteT (.inr ⟨_, rfl, a, rfl, ⟨_, SqT.of (s2 _ _ h)⟩, fun D hD => ?_⟩)
      refine walk_core (walk_tup (K := K) (a := a) (xs := vs)) (fun i G => Same Gb G ∧ G D = some (.lst (((os.take i).map chaT).map V.bl))) ⟨same_up hD, upd_same⟩ (fun _ _ _ g => SqT.of (g.1 _ _ (s2 _ _ h))) ?_ ?_
      · rintro i y G G' hi ⟨s1, hD1⟩ ⟨rfl, hy⟩
        obtain ⟨o, ho, tz⟩ := m.at hy
        refine ⟨rfl, _, rfl, _, o, rfl, tz.same (s2.trans s1), fun G2 s3 => ?_⟩
        refine ⟨_, s3 _ _ hD1, small1000 (by rw [List.length_map, List.length_map, List.length_take]; omega), sup hD (s1.trans s3), ?_⟩
        rw [upd_same, take_next1 ho, List.map_append, List.map_append]
        rfl
      · rintro G ⟨s1, hD1⟩
        rw [lm, List.take_length] at hD1
        refine ⟨D, _, rfl, SqL.of hD1, ?_⟩
        have ea : ((os.map chaT).all id) = os.all chaT := by
          rw [List.all_map]
          rfl
        rw [ea]
        exact q _ (s2.trans s1)
end
end Pl

namespace Pl
open L2 PySem PySem.Spec PyProof.Rows RZ
/-! ### weights by lots -/
abbrev KLT := List (List Key × V)
abbrev AU := Addr × (Int × Int)
def kOf (l : Z) : List Key := l.map Sum.inl
theorem kOf_V (l : Z) : (kOf l).map kV = l.map V.int := by
  unfold kOf
  rw [List.map_map]
  rfl
theorem kOf_inj {a b : Z} (h : kOf a = kOf b) : a = b := by
  unfold kOf at h
  exact (List.map_inj_right fun x y e => Sum.inl.inj e).mp h
def kvO (f : Z → Int) (ls : List Z) : KLT := ls.map fun l => (kOf l, V.int (f l))
theorem put_newT {kvs : KLT} {k : List Key} {v : V} (h : ∀ e ∈ kvs, e.1 ≠ k) : putK kvs k v = kvs ++ [(k, v)] := by
  unfold putK
  refine if_neg fun a => ?_
  obtain ⟨e, he, h2⟩ := List.any_eq_true.mp a
  exact h e he (of_decide_eq_true h2)
theorem kvO_put {f : Z → Int} {ls : List Z} {l : Z} (h : l ∉ ls) : putK (kvO f ls) (kOf l) (.int (f l)) = kvO f (ls ++ [l]) := by
  rw [put_newT fun e he z => ?_]
  · unfold kvO
    rw [List.map_append]
    rfl
  · obtain ⟨l', hl, rfl⟩ := List.mem_map.mp he
    exact h (kOf_inj z ▸ hl)
theorem kvO_val {f : Z → Int} : ∀ {ls : List Z} {l : Z}, l ∈ ls → valV (kvO f ls) (kOf l) = some (.int (f l))
  | x :: ls, l, h => by
    unfold kvO valV
    rw [List.map_cons, List.find?_cons]
    by_cases e : x = l
    · subst e
      simp
    · have : decide (kOf x = kOf l) = false := decide_eq_false fun z => e (kOf_inj z)
      rw [this]
      rcases List.mem_cons.mp h with h | h
      · exact absurd h.symm e
      · exact kvO_val h
theorem kvO_vals (f : Z → Int) (ls : List Z) : (kvO f ls).map (·.2) = (ls.map f).map V.int := by
  unfold kvO
  rw [List.map_map, List.map_map]; skip
  rfl
def urefs (R : List AU) : List V := R.map fun r => V.ref r.1
/-- chances, as a list or a tuple -/
def UpsB (H : Hp) (a : Addr) (R : List AU) : Prop := (H a = some (.lst (urefs R)) ∨ H a = some (.tup (urefs R))) ∧ ∀ r ∈ R, H r.1 = some (.tup [.int r.2.1, .int r.2.2])
theorem UpsB.same {H G : Hp} {a : Addr} {R : List AU} (h : UpsB H a R) (s : Same H G) : UpsB G a R := ⟨h.1.imp (s _ _) (s _ _), fun r hr => s _ _ (h.2 r hr)⟩
theorem UpsB.ext {H G : Hp} {a : Addr} {R : List AU} (h : UpsB H a R) (s : LamX.ExtN H G) : UpsB G a R := ⟨h.1.imp (ext_at s) (ext_tp s), fun r hr => ext_tp s (h.2 r hr)⟩
theorem urefs_get {R : List AU} {i : Nat} {v : V} (h : (urefs R)[i]? = some v) : ∃ r, R[i]? = some r ∧ v = .ref r.1 := by
  unfold urefs at h
  rw [List.getElem?_map] at h
  cases e : R[i]? with
  | none =>
    rw [e] at h
    cases h
  | some p =>
    rw [e] at h
    exact ⟨p, rfl, (Option.some.inj h).symm⟩
def spWts : Sp := fun vs H Q _ => ∃ (p ua : Addr) (L : List AT) (R : List AU), vs = [.ref p, .ref ua] ∧ Lots H p L ∧ UpsB H ua R ∧ Upok (R.map (·.2)) ∧ (L.map (·.2)).Nodup ∧ L.length ≤ 32 ∧ ∀ d G, Same H G → G d = some (.dT (kvO (fun l => wtN (R.map (·.2)) l R.length) (L.map (·.2)))) → Q (.ref d) G
abbrev nWt : List Str := ["lots", "ups", "weights", "lot", "weight", "copy", "top", "bottom"]
section
variable {P : Program} {K : PySem.W.Frag} {w : World} {base : Heap} {mg : Str → Option Value}
theorem scWt : FnScope nWt ["lots", "ups"] (defScope sWeights) := ⟨rfl, rfl, rfl, by decide +kernel, rfl, by decide +kernel, by decide +kernel⟩
theorem ok_wts {f : Addr} {fd : FuncData} (F : Fun K "_weights" "_weights" sWeights f fd) (T : Cst mg) : FnOk P w K mg base CX0 1 f fd ["lots", "ups"] spWts := by
  refine F.ok scWt (fun vs H Q E h => ?_) (fun cdv A outer s0 H vs Q E hr h => ?_)
  · obtain ⟨p, ua, L, R, rfl, _⟩ := h
    rfl
  · obtain ⟨p, ua, L, R, rfl, hL, hR, uo, nd, lL, q⟩ := h
    have hu : (A.deeper (envOfC "_weights" (defScope sWeights) s0.heap.objs.size f cdv)).units + 1 < cLine := by
      have := hr.un
      omega
    refine ⟨_, pss_cons (ps_set (i := 2) scWt.nd rfl (Or.inl rfl) pe_dnewT)
      (pss_cons (ps_for PassesOwn.never rfl (pi_list (pv 0)) (pg_name (i := 3) scWt.nd rfl (Or.inl rfl))
        (pss_cons (ps_set (i := 4) scWt.nd rfl (Or.inl rfl) pe_int)
        (pss_cons (ps_for PassesOwn.never rfl (pi_or (pi_enum rfl T.enum (pa_cons (pv 1) pa_nil)) (pi_enumT rfl T.enum (pa_cons (pv 1) pa_nil))) (pg_tup rfl (pgs_cons (pg_name (i := 5) scWt.nd rfl (Or.inl rfl)) (pgs_cons (pg_tup rfl (pgs_cons (pg_name (i := 6) scWt.nd rfl (Or.inl rfl)) (pgs_cons (pg_name (i := 7) scWt.nd rfl (Or.inl rfl)) pgs_nil))) pgs_nil)))
          (pss_one (ps_set (i := 4) scWt.nd rfl (Or.inl rfl) (pe_op op_mul (pv 4) (pe_ifExp (pt_cmpR (show OpR _ (compareOp .In) (rIn K false) from op_in_seq) (pv 5) (pv 3) (by rfl)) (pv 6) (pe_op op_sub (pv 7) (pv 6)))))))
        (pss_one (ps_dput hu (pv 2) (pv 3) (pv 4) rfl)))))
      (pss_one (ps_ret (pv 2)))), ?_⟩
    intro d hd
    have s1 := same_up (o := .dT []) hd
    have fd : upd H d (.dT []) d = some (.dT []) := upd_same
    generalize upd H d (.dT []) = G0 at s1 fd ⊢
    have n4 : R.length ≤ 5 := by
      have := uo.1
      rwa [List.length_map] at this
    refine ⟨_, rfl, p, rfl, ⟨_, SqL.of (hL.same s1).1⟩, ?_⟩
    refine for_it (walk_list (K := K) (a := p) (xs := refs L)) (fun i σ G => (∃ x3 x4 x5 x6 x7, σ = [some (.ref p), some (.ref ua), some (.ref d), x3, x4, x5, x6, x7]) ∧ Same H G ∧ G d = some (.dT (kvO (fun l => wtN (R.map (·.2)) l R.length) ((L.map (·.2)).take i)))) ⟨⟨_, _, _, _, _, rfl⟩, s1, fd⟩ (fun i σ G _ h => SqL.of (h.2.1 _ _ hL.1)) ?_ ?_
    · rintro i y σ G G' hi ⟨⟨x3, x4, x5, x6, x7, rfl⟩, s2, h2⟩ ⟨rfl, hy⟩
      obtain ⟨r, hr', rfl⟩ := refs_get hy
      have rL := List.mem_of_getElem? hr'
      have hr2 := s2 _ _ (hL.2 r rL)
      have hR2 := hR.same s2
      have ul : (urefs R).length = R.length := List.length_map _
      have ht : (L.map (·.2))[i]? = some r.2 := by rw [List.getElem?_map, hr']; rfl
      have nm : r.2 ∉ (L.map (·.2)).take i := fun z => by
        have e : L.map (·.2) = (L.map (·.2)).take i ++ r.2 :: (L.map (·.2)).drop (i + 1) := by
          obtain ⟨lt, hk⟩ := List.getElem?_eq_some_iff.mp ht
          rw [← hk, List.getElem_cons_drop, List.take_append_drop]
        rw [e] at nd
        exact (List.nodup_append.mp nd).2.2 _ z _ List.mem_cons_self rfl
      rcases hR2.1 with hu1 | hu1
      · refine .inl ⟨_, rfl, ua, urefs R, rfl, SqL.of hu1, ?_⟩
        refine for_it (walk_enum (K := K) (a := ua) (xs := urefs R)) (fun i σ F => (∃ x5 x6 x7, σ = [some (.ref p), some (.ref ua), some (.ref d), some (.ref r.1), some (.int (wtN (R.map (·.2)) r.2 i)), x5, x6, x7]) ∧ Same G' F) ⟨⟨_, _, _, rfl⟩, fun _ _ e => e⟩ (fun i σ F _ h => SqL.of (h.2 _ _ hu1)) ?_ ?_
        · rintro j y σ F F' hj ⟨⟨x5, x6, x7, rfl⟩, s3⟩ ⟨T0, u, v, rfl, nT, rfl, hu', hv⟩
          cases hu'
          obtain ⟨c, hc, rfl⟩ := urefs_get hv
          have s4 := same_up (o := .tup [.int (j : Nat), .ref c.1]) nT
          have s34 := s3.trans s4
          have hc4 := s34 _ _ (hR2.2 c (List.mem_of_getElem? hc))
          have gd : (R.map (·.2)).getD j (0, 0) = c.2 := by
            rw [List.getD_eq_getElem?_getD, List.getElem?_map, hc]
            rfl
          rw [ul] at hj
          have wb := wtN_s uo r.2 (n := j) (by omega)
          have fb := fac_b uo r.2 j
          refine ⟨T0, _, rfl, SqT.of upd_same, rfl, _, _, rfl, _, _, rfl, c.1, _, rfl, SqT.of hc4, rfl, _, _, rfl, _, _, rfl, rfl, rfl, ?_⟩
          refine ⟨_, rfl, _, rfl, _, rfl, r.1, _, rfl, .inr (SqT.of (s34 _ _ hr2)), rfl, flatZ r.2, _, rfl, ?_⟩
          rw [inZ]
          have ew : wtN (R.map (·.2)) r.2 (j + 1) = wtN (R.map (·.2)) r.2 j * fac (R.map (·.2)) r.2 j := rfl
          rw [ew]
          unfold fac at fb ⊢
          rw [gd] at fb ⊢
          rw [Int.zero_add] at fb ⊢
          refine ite2 (fun e => ?_) fun e => ?_
          · have e : has r.2 (j : Int) = true := e
            rw [if_pos e] at fb ⊢
            exact ⟨_, rfl, _, _, rfl, rfl, .inl ⟨by omega, by omega⟩, ⟨_, _, _, rfl⟩, s34⟩
          · have e : ¬ has r.2 (j : Int) = true := e
            rw [if_neg e] at fb ⊢
            exact ⟨_, rfl, _, rfl, _, _, rfl, rfl, _, _, rfl, rfl, .inl ⟨by omega, by omega⟩, ⟨_, _, _, rfl⟩, s34⟩
        · rintro σ F ⟨⟨x5, x6, x7, rfl⟩, s3⟩
          refine ⟨_, rfl, _, rfl, _, rfl, d, _, rfl, DPut.t (k := kOf r.2) (s3 _ _ h2) (by rw [kOf_V]; exact s3 _ _ hr2) ?_, ⟨_, _, _, _, _, rfl⟩, sup hd (s2.trans s3), ?_⟩
          · unfold kvO
            refine small1000 ?_
            rw [List.length_map, List.length_take, List.length_map]
            omega
          · rw [upd_same, ul, take_next1 ht, ← kvO_put nm]
      · refine .inr ⟨_, rfl, ua, urefs R, rfl, SqT.of hu1, ?_⟩
        refine for_it (walk_enumT (K := K) (a := ua) (xs := urefs R)) (fun i σ F => (∃ x5 x6 x7, σ = [some (.ref p), some (.ref ua), some (.ref d), some (.ref r.1), some (.int (wtN (R.map (·.2)) r.2 i)), x5, x6, x7]) ∧ Same G' F) ⟨⟨_, _, _, rfl⟩, fun _ _ e => e⟩ (fun i σ F _ h => SqT.of (h.2 _ _ hu1)) ?_ ?_
        · rintro j y σ F F' hj ⟨⟨x5, x6, x7, rfl⟩, s3⟩ ⟨T0, u, v, rfl, nT, rfl, hu', hv⟩
          cases hu'
          obtain ⟨c, hc, rfl⟩ := urefs_get hv
          have s4 := same_up (o := .tup [.int (j : Nat), .ref c.1]) nT
          have s34 := s3.trans s4
          have hc4 := s34 _ _ (hR2.2 c (List.mem_of_getElem? hc))
          have gd : (R.map (·.2)).getD j (0, 0) = c.2 := by
            rw [List.getD_eq_getElem?_getD, List.getElem?_map, hc]
            rfl
          rw [ul] at hj
          have wb := wtN_s uo r.2 (n := j) (by omega)
          have fb := fac_b uo r.2 j
          refine ⟨T0, _, rfl, SqT.of upd_same, rfl, _, _, rfl, _, _, rfl, c.1, _, rfl, SqT.of hc4, rfl, _, _, rfl, _, _, rfl, rfl, rfl, ?_⟩
          refine ⟨_, rfl, _, rfl, _, rfl, r.1, _, rfl, .inr (SqT.of (s34 _ _ hr2)), rfl, flatZ r.2, _, rfl, ?_⟩
          rw [inZ]
          have ew : wtN (R.map (·.2)) r.2 (j + 1) = wtN (R.map (·.2)) r.2 j * fac (R.map (·.2)) r.2 j := rfl
          rw [ew]
          unfold fac at fb ⊢
          rw [gd] at fb ⊢
          rw [Int.zero_add] at fb ⊢
          refine ite2 (fun e => ?_) fun e => ?_
          · have e : has r.2 (j : Int) = true := e
            rw [if_pos e] at fb ⊢
            exact ⟨_, rfl, _, _, rfl, rfl, .inl ⟨by omega, by omega⟩, ⟨_, _, _, rfl⟩, s34⟩
          · have e : ¬ has r.2 (j : Int) = true := e
            rw [if_neg e] at fb ⊢
            exact ⟨_, rfl, _, rfl, _, _, rfl, rfl, _, _, rfl, rfl, .inl ⟨by omega, by omega⟩, ⟨_, _, _, rfl⟩, s34⟩
        · rintro σ F ⟨⟨x5, x6, x7, rfl⟩, s3⟩
          refine ⟨_, rfl, _, rfl, _, rfl, d, _, rfl, DPut.t (k := kOf r.2) (s3 _ _ h2) (by rw [kOf_V]; exact s3 _ _ hr2) ?_, ⟨_, _, _, _, _, rfl⟩, sup hd (s2.trans s3), ?_⟩
          · unfold kvO
            refine small1000 ?_
            rw [List.length_map, List.length_take, List.length_map]
            omega
          · rw [upd_same, ul, take_next1 ht, ← kvO_put nm]
    · rintro σ G ⟨⟨x3, x4, x5, x6, x7, rfl⟩, s2, h2⟩
      have e : (L.map (·.2)).take (refs L).length = L.map (·.2) := by rw [refs_len, ← List.length_map (f := (·.2)) (as := L), List.take_length]
      rw [e] at h2
      exact ⟨_, rfl, q d G s2 h2⟩
end
end Pl

namespace Pl
open L2 PySem PySem.Spec PyProof.Rows RZ
def spLLow : Sp := fun vs H Q _ => ∃ (a b : Int), vs = [.int a, .int b] ∧ 0 ≤ a ∧ 0 < b ∧ a ≤ 1000000 ∧ b ≤ 1000000 ∧ ∀ p G, Same H G → H p = none → G p = some (.tup [.int (lowZ a b).1, .int (lowZ a b).2]) → Q (.ref p) G
def spLCh : Sp := fun vs H Q _ => ∃ (z : Addr), vs = [.ref z] ∧ Src z H ∧ ∀ p (x : Int × Int) G, But z H G → Src z G → p ≠ z → H p = none → G p = some (.tup [.int x.1, .int x.2]) → (0 ≤ x.1 ∧ x.1 ≤ x.2 ∧ 1 ≤ x.2 ∧ x.2 ≤ 6 ∧ Nat.gcd x.1.natAbs x.2.natAbs = 1) → Q (.ref p) G
def spLWt : Sp := fun vs H Q _ => ∃ (ua b : Addr) (R : List AU) (l : Z), vs = [.ref ua, .ref b] ∧ H ua = some (.lst (urefs R)) ∧ (∀ r ∈ R, H r.1 = some (.tup [.int r.2.1, .int r.2.2])) ∧ Upok (R.map (·.2)) ∧ H b = some (.tup (l.map V.int)) ∧ ∀ G, Same H G → Q (.int (wtN (R.map (·.2)) l R.length)) G
abbrev nLL : List Str := ["_law_over", "_law_under", "_law_one_here", "_law_other"]
abbrev nLW : List Str := ["_law_ups_here", "_law_lot", "_law_found", "_law_copy", "_law_up_here"]
section
variable {P : Program} {K : PySem.W.Frag} {w : World} {base : Heap} {mg : Str → Option Value}
theorem scLLow : FnScope nLL ["_law_over", "_law_under"] (defScope sLLow) := ⟨rfl, rfl, rfl, by decide +kernel, rfl, by decide +kernel, by decide +kernel⟩
theorem ok_llow {f : Addr} {fd : FuncData} (F : Fun K "_law_lowered" "_law_lowered" sLLow f fd) : FnOk P w K mg base CX0 1 f fd ["_law_over", "_law_under"] spLLow := by
  refine F.ok scLLow (fun vs H Q E h => ?_) (fun cdv A outer s0 H vs Q E hr h => ?_)
  · obtain ⟨a, b, rfl, _⟩ := h
    rfl
  · obtain ⟨a, b, rfl, a0, b0, a1, b1, q⟩ := h
    refine ⟨_, pss_cons (ps_par (i := 2) (j := 3) (by rfl) scLLow.nd rfl rfl (by decide) rfl rfl (pa_cons (pv 0) (pa_cons (pv 1) pa_nil)) (by rfl))
      (pss_cons (ps_while PassesOwn.never (pt_cmpR op_gt (pv 3) pe_int (nomark _)) (pss_one (ps_par (i := 2) (j := 3) (by rfl) scLLow.nd rfl rfl (by decide) rfl rfl (pa_cons (pv 3) (pa_cons (pe_op op_mod (pv 2) (pv 3)) pa_nil)) (by rfl))))
      (pss_one (ps_ret (pe_tup (pa_cons (pe_op op_fdiv (pv 0) (pv 2)) (pa_cons (pe_op op_fdiv (pv 1) (pv 2)) pa_nil)))))), ?_⟩
    have g0 := gcd_pos (a := a) b0
    have g1 : ((Nat.gcd a.natAbs b.natAbs : Nat) : Int) ≤ b := by
      have := Nat.gcd_le_right a.natAbs (n := b.natAbs) (by omega)
      omega
    refine ⟨_, rfl, _, rfl, _, _, rfl, ?_⟩
    refine ⟨fun m σ F => ∃ x y : Nat, σ = [some (.int a), some (.int b), some (.int x), some (.int y)] ∧ F = H ∧ Nat.gcd x y = Nat.gcd a.natAbs b.natAbs ∧ m = y ∧ y ≤ 1000000, ⟨b.natAbs, a.natAbs, b.natAbs, ?_, rfl, rfl, rfl, by omega⟩, ?_⟩
    · rw [show ((a.natAbs : Nat) : Int) = a by omega, show ((b.natAbs : Nat) : Int) = b by omega]
      rfl
    rintro m σ F ⟨x, y, rfl, rfl, hg, rfl, hy⟩
    refine ⟨_, rfl, _, _, rfl, rfl, ⟨_, rfl, ?_⟩⟩
    refine ite2 (fun e => ?_) fun e => ?_
    · have y0 : 0 < m := by
        have := of_decide_eq_true e
        omega
      refine ⟨fun σ F' => ∃ x' y' : Nat, y' < m ∧ σ = [some (.int a), some (.int b), some (.int x'), some (.int y')] ∧ F' = F ∧ Nat.gcd x' y' = Nat.gcd a.natAbs b.natAbs ∧ y' ≤ 1000000, fun σ' F' ⟨x', y', l, e1, e2, e3, e4⟩ => ⟨y', l, x', y', e1, e2, e3, rfl, e4⟩, ?_⟩
      refine ⟨_, rfl, _, rfl, _, rfl, _, _, rfl, rfl, (by omega), ?_⟩
      refine ⟨_, _, rfl, m, x % m, Nat.mod_lt _ y0, ?_, rfl, ?_, by have := Nat.mod_lt x y0; omega⟩
      · show ([some (V.int a), some (V.int b), some (V.int (m : Int)), some (V.int ((x : Int) % (m : Int)))] : L2.St) = _
        rw [show ((x : Int) % (m : Int)) = ((x % m : Nat) : Int) from (Int.natCast_emod x m).symm]
      · rw [← hg, Nat.gcd_comm x m, Nat.gcd_rec m x, Nat.gcd_comm]
    · have y0 : m = 0 := by
        have := Bool.eq_false_iff.mpr e
        have := of_decide_eq_false this
        omega
      subst y0
      rw [Nat.gcd_zero_right] at hg
      subst hg
      refine ⟨_, rfl, _, rfl, _, _, rfl, rfl, ⟨g0, by omega⟩, ?_⟩
      refine ⟨_, rfl, _, rfl, _, _, rfl, rfl, ⟨g0, by omega⟩, by show 2 ≤ sizeLine; decide, fun p hp => ?_⟩
      exact q p _ (same_up hp) hp upd_same
theorem scLCh : FnScope ["_law_source", "_law_under"] ["_law_source"] (defScope sLChance) := ⟨rfl, rfl, rfl, by decide +kernel, rfl, by decide +kernel, by decide +kernel⟩
theorem ok_lch {f : Addr} {fd : FuncData} (F : Fun K "_law_chance" "_law_chance" sLChance f fd) (DT : Df P w K mg base 1 "_law_take" ["_law_source", "_law_top"] spTake) (DL : Df P w K mg base 1 "_law_lowered" ["_law_over", "_law_under"] spLLow) : FnOk P w K mg base CX0 2 f fd ["_law_source"] spLCh := by
  obtain ⟨gT, fdT, GT, mT, kT, bT⟩ := DT.ex
  obtain ⟨gL, fdL, GL, mL, kL, bL⟩ := DL.ex
  refine F.ok scLCh (fun vs H Q E h => ?_) (fun cdv A outer s0 H vs Q E hr h => ?_)
  · obtain ⟨z, rfl, _⟩ := h
    rfl
  · obtain ⟨z, rfl, hz, q⟩ := h
    refine ⟨_, pss_cons (ps_set (i := 1) scLCh.nd rfl (Or.inl rfl) (pe_op op_add pe_int (pe_call GT hr (by rfl) mT kT bT .nil pass0 (pa_cons (pv 0) (pa_cons pe_int pa_nil)))))
      (pss_one (ps_ret (pe_call GL hr (by rfl) mL kL bL .nil pass0 (pa_cons (pe_call GT hr (by rfl) mT kT bT .nil pass0 (pa_cons (pv 0) (pa_cons (pe_op op_add (pv 1) pe_int) pa_nil))) (pa_cons (pv 1) pa_nil))))), ?_⟩
    refine ⟨_, rfl, z, 5, rfl, hz, by decide, by decide, fun r G1 r0 r1 b1 z1 => ?_⟩
    obtain ⟨n, hn⟩ : ∃ n : Int, (1 : Int) + r = n := ⟨_, rfl⟩
    refine rI0_to (v := V.int n) (congrArg V.int hn) ?_
    refine ⟨_, rfl, _, rfl, n, 1, rfl, rfl, z, n + 1, rfl, z1, by omega, by omega, fun t G2 t0 t1 b2 z2 => ?_⟩
    refine ⟨_, rfl, t, n, rfl, t0, by omega, by omega, by omega, fun p G3 s3 f3 h3 => ?_⟩
    have b12 := b1.trans b2
    have pz := z2.ne f3
    exact q p (lowZ t n) G3 (b12.trans (But.of s3)) (z2.same s3) pz (b12.fresh f3 pz) h3 (low_small t0 (by omega) (by omega) (by omega))
theorem scLWt : FnScope nLW ["_law_ups_here", "_law_lot"] (defScope sLWeight) := ⟨rfl, rfl, rfl, by decide +kernel, rfl, by decide +kernel, by decide +kernel⟩
theorem ok_lwt {f : Addr} {fd : FuncData} (F : Fun K "_law_weight" "_law_weight" sLWeight f fd) (T : Cst mg) : FnOk P w K mg base CX0 1 f fd ["_law_ups_here", "_law_lot"] spLWt := by
  refine F.ok scLWt (fun vs H Q E h => ?_) (fun cdv A outer s0 H vs Q E hr h => ?_)
  · obtain ⟨ua, b, R, l, rfl, _⟩ := h
    rfl
  · obtain ⟨ua, b, R, l, rfl, hua, hR, uo, hb, q⟩ := h
    refine ⟨_, pss_cons (ps_set (i := 2) scLWt.nd rfl (Or.inl rfl) pe_int)
      (pss_cons (ps_for PassesOwn.never rfl (pi_enum rfl T.enum (pa_cons (pv 0) pa_nil)) (pg_tup rfl (pgs_cons (pg_name (i := 3) scLWt.nd rfl (Or.inl rfl)) (pgs_cons (pg_name (i := 4) scLWt.nd rfl (Or.inl rfl)) pgs_nil)))
          (pss_one (ps_set (i := 2) scLWt.nd rfl (Or.inl rfl) (pe_op op_mul (pv 2) (pe_ifExp (pt_cmpR (show OpR _ (compareOp .In) (rIn K false) from op_in_seq) (pv 3) (pv 1) (by rfl)) (pe_ix (show IxR _ (rIxT K) from ix_tup) (pv 4) pe_int (fun _ _ => rfl)) (pe_op op_sub (pe_ix (show IxR _ (rIxT K) from ix_tup) (pv 4) pe_int (fun _ _ => rfl)) (pe_ix (show IxR _ (rIxT K) from ix_tup) (pv 4) pe_int (fun _ _ => rfl))))))))
      (pss_one (ps_ret (pv 2)))), ?_⟩
    have ul : (urefs R).length = R.length := List.length_map _
    have n4 : R.length ≤ 5 := by
      have := uo.1
      rwa [List.length_map] at this
    refine ⟨_, rfl, ua, urefs R, rfl, SqL.of hua, ?_⟩
    refine for_it (walk_enum (K := K) (a := ua) (xs := urefs R)) (fun i σ F => (∃ x3 x4, σ = [some (.ref ua), some (.ref b), some (.int (wtN (R.map (·.2)) l i)), x3, x4]) ∧ Same H F) ⟨⟨_, _, rfl⟩, fun _ _ e => e⟩ (fun i σ F _ h => SqL.of (h.2 _ _ hua)) ?_ ?_
    · rintro j y σ F F' hj ⟨⟨x3, x4, rfl⟩, s3⟩ ⟨T0, u, v, rfl, nT, rfl, hu', hv⟩
      cases hu'
      obtain ⟨c, hc, rfl⟩ := urefs_get hv
      have s4 := same_up (o := .tup [.int (j : Nat), .ref c.1]) nT
      have s34 := s3.trans s4
      have hc4 := s34 _ _ (hR c (List.mem_of_getElem? hc))
      have gd : (R.map (·.2)).getD j (0, 0) = c.2 := by
        rw [List.getD_eq_getElem?_getD, List.getElem?_map, hc]
        rfl
      rw [ul] at hj
      have wb := wtN_s uo l (n := j) (by omega)
      have fb := fac_b uo l j
      refine ⟨T0, _, rfl, SqT.of upd_same, rfl, _, _, rfl, _, _, rfl, rfl, ?_⟩
      refine ⟨_, rfl, _, rfl, _, rfl, b, _, rfl, .inr (SqT.of (s34 _ _ hb)), rfl, flatZ l, _, rfl, ?_⟩
      rw [inZ]
      have ew : wtN (R.map (·.2)) l (j + 1) = wtN (R.map (·.2)) l j * fac (R.map (·.2)) l j := rfl
      rw [ew]
      unfold fac at fb ⊢
      rw [gd] at fb ⊢
      rw [Int.zero_add] at fb ⊢
      refine ite2 (fun e => ?_) fun e => ?_
      · have e : has l (j : Int) = true := e
        rw [if_pos e] at fb ⊢
        exact ⟨_, rfl, c.1, _, _, .int c.2.1, rfl, rfl, SqT.of hc4, atI_nat (j := 0) rfl, _, _, rfl, rfl, .inl ⟨by omega, by omega⟩, ⟨_, _, rfl⟩, s34⟩
      · have e : ¬ has l (j : Int) = true := e
        rw [if_neg e] at fb ⊢
        refine ⟨_, rfl, c.1, _, _, .int c.2.2, rfl, rfl, SqT.of hc4, atI_nat (j := 1) rfl, ?_⟩
        exact ⟨_, rfl, c.1, _, _, .int c.2.1, rfl, rfl, SqT.of hc4, atI_nat (j := 0) rfl, _, _, rfl, rfl, _, _, rfl, rfl, .inl ⟨by omega, by omega⟩, ⟨_, _, rfl⟩, s34⟩
    · rintro σ F ⟨⟨x3, x4, rfl⟩, s3⟩
      rw [ul]
      exact ⟨_, rfl, q F s3⟩
end
end Pl

namespace Pl
open L2 PySem PySem.Spec PyProof.Rows RZ
/-! ### what is told, written out -/
def okS (x : Str) : Bool := (PyData.str x).canLay0
theorem okS_app (a b : Str) : okS (a ++ b) = (okS a && okS b) := by
  have e : ∀ x : Str, okS x = x.cps.all (· < 0x110000) := fun x => by
    unfold okS
    rw [PyData.canLay0]
    rfl
  rw [e, e, e]
  show (a.cps ++ b.cps).all _ = _
  exact Array.all_append
theorem okS_from : ∀ (ts : List Str) (k : Nat) (acc : Str), okS acc = true → (∀ t ∈ ts, okS t = true) → okS (textFrom k acc ts) = true
  | [], _, _, h, _ => h
  | t :: ts, k, acc, h, ht => by
    unfold textFrom
    refine okS_from ts (k + 1) _ ?_ fun u hu => ht u (List.mem_cons_of_mem _ hu)
    rw [okS_app, okS_app, h, ht t List.mem_cons_self, Bool.and_true, Bool.true_and]
    split <;> decide +kernel
theorem okS_list {ts : List Str} (h : ∀ t ∈ ts, okS t = true) : okS (listText ts) = true := by
  unfold listText
  rw [okS_app, okS_from ts 0 _ (by decide +kernel) h]
  decide +kernel
def elD : List PyData := ((List.range 7).flatMap fun b => (List.range 7).map fun t => PyData.tuple [.int (t : Nat), .int (b : Nat)]) ++ [.tuple [.int 1, .int 21], .tuple [.int (-1), .int 2], .tuple [.bool true, .int 2], .list [.int 1, .int 2]]
theorem el_all : (elD.all fun d => d.showable && (decide (d.depth ≤ 1) && (d.leavesShort 13 && (decide (d.weight ≤ 100) && okS d.shown)))) = true := by decide +kernel
theorem el_ok {d : PyData} (h : d ∈ elD) : d.showable = true ∧ d.depth ≤ 1 ∧ d.leavesShort 13 = true ∧ d.weight ≤ 100 ∧ okS d.shown = true := by
  have := List.all_eq_true.mp el_all d h
  rw [Bool.and_eq_true, Bool.and_eq_true, Bool.and_eq_true, Bool.and_eq_true] at this
  exact ⟨this.1, of_decide_eq_true this.2.1, this.2.2.1, of_decide_eq_true this.2.2.2.1, this.2.2.2.2⟩
theorem els_ok : ∀ {xs : List PyData}, (∀ x ∈ xs, x ∈ elD) → PyData.showableAll xs = true ∧ PyData.depthAll xs ≤ 1 ∧ PyData.leavesShortAll 13 xs = true ∧ PyData.weightAll xs ≤ 101 * xs.length ∧ ∀ t ∈ PyData.shownAll xs, okS t = true
  | [], _ => by
    refine ⟨by simp only [PyData.showableAll], by simp [PyData.depthAll], by simp only [PyData.leavesShortAll], by simp [PyData.weightAll], fun t ht => ?_⟩
    simp [PyData.shownAll] at ht
  | x :: xs, h => by
    obtain ⟨a1, a2, a3, a4, a5⟩ := el_ok (h x List.mem_cons_self)
    obtain ⟨b1, b2, b3, b4, b5⟩ := els_ok fun y hy => h y (List.mem_cons_of_mem _ hy)
    refine ⟨by simp only [PyData.showableAll, a1, b1, Bool.and_self], ?_, by simp only [PyData.leavesShortAll, a3, b3, Bool.and_self], ?_, fun t ht => ?_⟩
    · simp only [PyData.depthAll]
      omega
    · simp only [PyData.weightAll, List.length_cons]
      omega
    · simp only [PyData.shownAll, List.mem_cons] at ht
      rcases ht with rfl | ht
      · exact a5
      · exact b5 t ht
def wordL : List Str := ["need", "count", "chances"]
def flD : List PyData := [.none, .str "1"] ++ ((List.range 11).map fun n => PyData.int (n : Nat))
/-- what refusals tell -/
def SmD (d : PyData) : Prop := d ∈ flD ∨ d ∈ elD ∨ ∃ xs, d = .list xs ∧ xs.length ≤ 5 ∧ ∀ x ∈ xs, x ∈ elD
theorem fl_all : (flD.all fun d => d.showable && (decide (d.depth ≤ 10) && (decide (d.shown.length ≤ sizeLine) && okS d.shown))) = true := by decide +kernel
theorem word_ok : (wordL.all okS) = true := by decide +kernel
theorem smd_ok {d : PyData} (h : SmD d) : Shw d ∧ ∀ w ∈ wordL, SeqAt.shaped (.list [.str w, .str d.shown]) = true := by
  have sh : okS d.shown = true → ∀ w ∈ wordL, SeqAt.shaped (.list [.str w, .str d.shown]) = true := fun ok w hw => by
    have hw := List.all_eq_true.mp word_ok w hw
    unfold okS at ok hw
    unfold SeqAt.shaped
    simp only [PyData.canLay0, PyData.canLayAll0, PyData.depth, PyData.depthAll] at ok hw ⊢
    rw [ok, hw]
    simp
  rcases h with h | h | ⟨xs, rfl, l5, h⟩
  · have := List.all_eq_true.mp fl_all d h
    rw [Bool.and_eq_true, Bool.and_eq_true, Bool.and_eq_true] at this
    exact ⟨⟨this.1, of_decide_eq_true this.2.1, of_decide_eq_true this.2.2.1⟩, sh this.2.2.2⟩
  · obtain ⟨a1, a2, a3, a4, a5⟩ := el_ok h
    exact ⟨⟨a1, by omega, PyData.shown_fits (B := 13) (by decide) (by decide) a3 (by omega)⟩, sh a5⟩
  · obtain ⟨b1, b2, b3, b4, b5⟩ := els_ok h
    have ls : (PyData.list xs).leavesShort 13 = true := by simp only [PyData.leavesShort, b3]
    refine ⟨⟨by simp only [PyData.showable, b1], by simp only [PyData.depth]; omega, PyData.shown_fits (B := 13) (by decide) (by decide) ls (by simp only [PyData.weight]; omega)⟩, sh ?_⟩
    simp only [PyData.shown]
    exact okS_list b5
end Pl

namespace Pl
open L2 PySem PySem.Spec PyProof.Rows RZ
/-! ### repr of lists and tuples in one another -/
mutual
inductive Dw (H : Hp) : V → PyData → Prop
  | fl {v : V} {d : PyData} (h : Fl v d) : Dw H v d
  | lst {a : Addr} {xs : List V} {ds : List PyData} (h : H a = some (.lst xs)) (t : DwL H xs ds) : Dw H (.ref a) (.list ds)
  | tup {a : Addr} {xs : List V} {ds : List PyData} (h : H a = some (.tup xs)) (t : DwL H xs ds) : Dw H (.ref a) (.tuple ds)
inductive DwL (H : Hp) : List V → List PyData → Prop
  | nil : DwL H [] []
  | cons {v : V} {vs : List V} {d : PyData} {ds : List PyData} (a : Dw H v d) (t : DwL H vs ds) : DwL H (v :: vs) (d :: ds)
end
section
variable {H G : Hp}
mutual
theorem Dw.same (s : Same H G) : ∀ (d : PyData) (v : V), Dw H v d → Dw G v d
  | .list ds, v, h => by
    cases h with
    | fl h => exact .fl h
    | lst h t => exact .lst (s _ _ h) (DwL.same s ds _ t)
  | .tuple ds, v, h => by
    cases h with
    | fl h => exact .fl h
    | tup h t => exact .tup (s _ _ h) (DwL.same s ds _ t)
  | .none, v, h => by
    cases h with
    | fl h => exact .fl h
  | .bool b, v, h => by
    cases h with
    | fl h => exact .fl h
  | .int i, v, h => by
    cases h with
    | fl h => exact .fl h
  | .str x, v, h => by
    cases h with
    | fl h => exact .fl h
  | .dict k, v, h => by
    cases h with
    | fl h => exact .fl h
theorem DwL.same (s : Same H G) : ∀ (ds : List PyData) (vs : List V), DwL H vs ds → DwL G vs ds
  | [], _, h => by cases h; exact .nil
  | d :: ds, _, h => by
    cases h with
    | cons a t => exact .cons (Dw.same s d _ a) (DwL.same s ds _ t)
end
end
section
variable {X : Cx} {s : Shared} {pins : List (Addr × Obj)} {H : Hp} {σ : L2.St}
theorem fl_rd {v : V} {d : PyData} {u : Value} (h : Fl v d) (r : RelV v u) : Reads s.heap u d [] := by
  cases h with
  | non => cases r; exact .none
  | bl b => cases r; exact .bool b
  | int i => obtain ⟨t, rfl⟩ := r; exact .int i t
  | str x => obtain ⟨t, rfl⟩ := r; exact .str x t
theorem fl_nod {v : V} {d : PyData} (h : Fl v d) : d.hasDict = false := by
  cases h <;> simp only [PyData.hasDict]
mutual
theorem Dw.rd (I : Inv X pins σ H s) : ∀ (d : PyData) (v : V) (u : Value), Dw H v d → RelV v u → ∃ as, Reads s.heap u d as
  | .list ds, _, _, h, r => by
    cases h with
    | fl h => exact ⟨_, fl_rd h r⟩
    | lst h t =>
      cases r
      obtain ⟨o, vs, n, e1, e2, e3, rv⟩ := vals_list I h
      obtain ⟨as, q⟩ := DwL.rd I ds _ _ t rv
      exact ⟨_, .list e1 e2 e3 q⟩
  | .tuple ds, _, _, h, r => by
    cases h with
    | fl h => exact ⟨_, fl_rd h r⟩
    | tup h t =>
      cases r
      obtain ⟨_, its, rv, o, e1, e2, n, e3⟩ := I.hok _ _ h
      obtain ⟨as, q⟩ := DwL.rd I ds _ its t rv
      exact ⟨_, .tuple e1 e2 e3 (by simpa using q)⟩
  | .none, _, _, h, r => by
    cases h with
    | fl h => exact ⟨_, fl_rd h r⟩
  | .bool _, _, _, h, r => by
    cases h with
    | fl h => exact ⟨_, fl_rd h r⟩
  | .int _, _, _, h, r => by
    cases h with
    | fl h => exact ⟨_, fl_rd h r⟩
  | .str _, _, _, h, r => by
    cases h with
    | fl h => exact ⟨_, fl_rd h r⟩
  | .dict _, _, _, h, r => by
    cases h with
    | fl h => exact ⟨_, fl_rd h r⟩
theorem DwL.rd (I : Inv X pins σ H s) : ∀ (ds : List PyData) (vs : List V) (us : List Value), DwL H vs ds → Vals vs us → ∃ as, ReadsAll s.heap us ds as
  | [], _, _, h, r => by cases h; cases r; exact ⟨_, .nil⟩
  | d :: ds, _, _, h, r => by
    cases h with
    | cons a t =>
      cases r with
      | cons r1 r2 =>
        obtain ⟨as, q1⟩ := Dw.rd I d _ _ a r1
        obtain ⟨bs, q2⟩ := DwL.rd I ds _ _ t r2
        exact ⟨_, .cons q1 q2⟩
end
mutual
theorem Dw.nod : ∀ (d : PyData) (v : V), Dw H v d → d.hasDict = false
  | .list ds, _, h => by
    cases h with
    | fl h => exact fl_nod h
    | lst h t => simp only [PyData.hasDict]; exact DwL.nod ds _ t
  | .tuple ds, _, h => by
    cases h with
    | fl h => exact fl_nod h
    | tup h t => simp only [PyData.hasDict]; exact DwL.nod ds _ t
  | .none, _, h => by
    cases h with
    | fl h => exact fl_nod h
  | .bool _, _, h => by
    cases h with
    | fl h => exact fl_nod h
  | .int _, _, h => by
    cases h with
    | fl h => exact fl_nod h
  | .str _, _, h => by
    cases h with
    | fl h => exact fl_nod h
  | .dict _, _, h => by
    cases h with
    | fl h => exact fl_nod h
theorem DwL.nod : ∀ (ds : List PyData) (vs : List V), DwL H vs ds → PyData.hasDictAll ds = false
  | [], _, h => by simp only [PyData.hasDictAll]
  | d :: ds, _, h => by
    cases h with
    | cons a t => simp only [PyData.hasDictAll, Dw.nod d _ a, DwL.nod ds _ t, Bool.or_self]
end
def rReprW : List V → Hp → VK → Prop := fun xs H Q => ∃ (v : V) (d : PyData), xs = [v] ∧ Dw H v d ∧ Shw d ∧ Q (.str d.shown) H
theorem call_reprW (hg : X.A.guards = some []) (hu : X.A.units + 64 < cLine) : CallR X (.builtin "repr") rReprW := by
  intro pins s σ H xs us Q I r h; skip
  obtain ⟨v, d, rfl, hd, S, q⟩ := h
  obtain ⟨u, rfl, ru⟩ := vals1 r; skip
  obtain ⟨as, rd⟩ := Dw.rd I d v u hd ru
  have nd := Dw.nod d v hd
  have fin : ∀ (a : Addr), u = .ref a → wpAny (model X.prog X.w) X.A (call (.builtin "repr") [u]) (EP X pins σ Q) X.xe s := fun a e => by
    subst e
    refine repr_of_reads' rd S.sh (fun hd2 => absurd (nd.symm.trans hd2) (by decide)) hg (by have := S.dp; omega) (fun _ _ e => e) (fun h' w tk k => ?_) S.sz
    exact ⟨.str d.shown, H, I.kept k, ⟨w, rfl⟩, q⟩
  cases rd with
  | none => exact P.repr_of_none ⟨.str _, H, I.tok _, ⟨_, rfl⟩, by simpa only [PyData.shown] using q⟩
  | bool b => exact P.repr_of_bool ⟨.str _, H, I.tok _, ⟨_, rfl⟩, by cases b <;> simpa only [PyData.shown] using q⟩
  | int i t =>
    have e : decide (i.natAbs.log2 < 1920) = true := by simpa only [PyData.showable] using S.sh
    exact P.repr_of_int (of_decide_eq_true e) ⟨.str _, H, I.tok _, ⟨_, rfl⟩, by simpa only [PyData.shown] using q⟩
  | str x t => exact P.repr_of_str ⟨.str _, H, I.tok _, ⟨_, rfl⟩, by simpa only [PyData.shown] using q⟩ (by simpa only [PyData.shown] using S.sz)
  | list => exact fin _ rfl
  | tuple => exact fin _ rfl
  | dict => exact fin _ rfl
end
end Pl

namespace Pl
open L2 PySem PySem.Spec PyProof.Rows RZ
def OdV (H : Hp) (v : V) (e : PyData) : Prop := SmD e ∧ Dw H v e
theorem OdV.same {H G : Hp} {v : V} {e : PyData} (h : OdV H v e) (s : Same H G) : OdV G v e := ⟨h.1, Dw.same s _ _ h.2⟩
theorem OdV.fl {H : Hp} {v : V} {e : PyData} (m : SmD e) (f : Fl v e) : OdV H v e := ⟨m, .fl f⟩
abbrev outL (w : Str) (d : PyData) : HO := .lst [.str w, .str d.shown]
structure Fo where
  n : Addr
  h : Addr
def Fo.is_ (c : Fo) (w : Str) (cls : Value) : Prop := (w = "count" ∧ cls = .ref c.n) ∨ (w = "chances" ∧ cls = .ref c.h)
theorem Fo.word {c : Fo} {w : Str} {cls : Value} (h : c.is_ w cls) : w ∈ wordL := by
  rcases h with ⟨rfl, _⟩ | ⟨rfl, _⟩ <;> simp [wordL]
def TTr (c : Fo) : (XK → Hp → VK → Prop) → Hp → VK → Prop := fun tl H Q =>
  tl (fun cls d H' => ∃ (dd : Addr) (v : V) (e : PyData) (w : Str), c.is_ w cls ∧ d = some dd ∧ H' dd = some (.xd [("told", v)]) ∧ OdV H' v e ∧ ∀ p, H' p = none → Q (.ref p) (upd H' p (outL w e))) H fun _ H1 => Q .non H1
structure ErrS (K : PySem.W.Frag) (mg : Str → Option Value) (x : Str) (C : Addr) : Prop where
  gC : mg x = some (.ref C)
  xf : XfC K C
  no : PySem.W.findIn K (.ref C) "told" = some none
/-- what the clauses ask of the classes -/
structure Tri (K : PySem.W.Frag) (mg : Str → Option Value) (c : Fo) : Prop where
  n : ErrS K mg "NoCount" c.n
  h : ErrS K mg "NoChances" c.h
  nn : PySem.W.exmOne K (.ref c.n) (.ref c.n) = some true
  hn : PySem.W.exmOne K (.ref c.h) (.ref c.n) = some false
  hh : PySem.W.exmOne K (.ref c.h) (.ref c.h) = some true
  past : ∃ C, mg "NoPast" = some (.ref C) ∧ PySem.W.exmOne K (.ref c.h) (.ref C) = some false
  lot : ∃ C, mg "NoLot" = some (.ref C) ∧ PySem.W.exmOne K (.ref c.h) (.ref C) = some false
  change : ∃ C, mg "NoChange" = some (.ref C) ∧ PySem.W.exmOne K (.ref c.h) (.ref C) = some false
  back : ∃ C, mg "NothingBack" = some (.ref C) ∧ PySem.W.exmOne K (.ref c.h) (.ref C) = some false
  copies : ∃ C, mg "NoCopies" = some (.ref C) ∧ PySem.W.exmOne K (.ref c.h) (.ref C) = some false
  votes : ∃ C, mg "NoVotes" = some (.ref C) ∧ PySem.W.exmOne K (.ref c.h) (.ref C) = some false
  need : ∃ C, mg "NoNeed" = some (.ref C) ∧ PySem.W.exmOne K (.ref c.h) (.ref C) = some false
  edit : ∃ C : Addr, mg "NoEdit" = some (.ref C)
  key : ∃ C : Addr, mg "NoKey" = some (.ref C)
  name : ∃ C : Addr, mg "NoName" = some (.ref C)
  moment : ∃ C : Addr, mg "NoMoment" = some (.ref C)
  many : ∃ C : Addr, mg "TooMany" = some (.ref C)
abbrev psT : List Str := ["_law_call", "e"]
theorem scTried : FnScope psT ["_law_call"] (defScope sCaught) := ⟨rfl, rfl, rfl, by decide +kernel, rfl, by decide +kernel, by decide +kernel⟩
/-- a clause that is never come to -/
theorem never {X : Cx} {n x : Str} {c : Value} {b1 : Stmt} {bs : List Stmt} {p1 p2 : Pos} {hs : List ExceptHandler} {l : List SuT} (names : Names X x c) (rest : Cls X n hs l) : Cls X n (.ExceptHandler (some (.Name x p1)) (some n) (b1 :: bs) p2 :: hs) ((c, fun _ _ _ _ _ _ => False) :: l) :=
  .cons names (fun _ _ _ _ _ _ _ => ⟨fun _ _ _ _ _ _ h => h.elim⟩) rest
theorem takes_len {X : Cx} {W : WX} (tk : Takes X W) : Takes X (fun cls d σ H => σ.length = X.N.length → W cls d σ H) := fun u s' ⟨a, B, sI, pins, σ, H, cls, d, e, I, nb, up, sky, na, os, ag, w⟩ => tk u s' ⟨a, B, sI, pins, σ, H, cls, d, e, I, nb, up, sky, na, os, ag, w I.len⟩
theorem pss_ex {X : Cx} {b : List Stmt} {ι : Type} {Pre : ι → Prop} {t : ι → Ends → L2.St → Hp → Prop} (h : ∀ i, Pre i → PSs X b (t i)) : PSs X b (fun D σ H => ∃ i, Pre i ∧ t i D σ H) := ⟨fun pins s σ H D I ⟨i, p, h'⟩ => (h i p).run pins s σ H D I h'⟩
theorem tried_gives {X : Cx} {c : Fo} {g : Addr} {cdg : Value} {q : Str} (hgd : X.A.guards = some []) (hun : X.A.units + 128 < cLine) (T : Cst X.mg) (S : Tri X.K X.mg c) : LamX.GivesTo X psT "_law_caught" (defScope sCaught) g cdg (defBody sCaught) "_law_call" q (TTr c) := by
  intro f c' s H Q tl act hc h
  have hu : (X.A.deeper (envOfC "_law_caught" (defScope sCaught) s.heap.objs.size g cdg)).units + 64 < cLine := by
    show X.A.units + 3 + 64 < cLine
    omega
  obtain ⟨_, g0, g0h⟩ := S.past
  obtain ⟨_, g1, g1h⟩ := S.lot
  obtain ⟨_, g2, g2h⟩ := S.change
  obtain ⟨_, g3, g3h⟩ := S.back
  obtain ⟨_, g4, g4h⟩ := S.copies
  obtain ⟨_, g5, g5h⟩ := S.votes
  obtain ⟨_, g6, g6h⟩ := S.need
  obtain ⟨_, h0⟩ := S.edit
  obtain ⟨_, h1⟩ := S.key
  obtain ⟨_, h2⟩ := S.name
  obtain ⟨_, h3⟩ := S.moment
  obtain ⟨_, h4⟩ := S.many
  refine ⟨_, pss_cons (ps_try_all (X := (cxOf C8.CX0 X.prog X.w X.K X.mg X.base psT "_law_caught" (defScope sCaught) g cdg X.A X.stack s H C8.E0).nox) (i := 1) (n := "e")
      rfl rfl scTried.nd rfl rfl takes0 (fun W pn xe tk _ => pss_ex (Pre := fun Ech : XK => ∀ cls d σ' H', Ech cls d H' → (List.length σ' = 2) → W cls d σ' H') fun Ech hW => pss_one (ps_expr (act _ pn xe Ech _ _ (takes_len tk) hW)))
      (.cons (x := "NoCount") ⟨rfl, by decide, .inl S.n.gC⟩ (fun a oe cls d pn hz hf => pss_one (ps_ret (pe_lst (pa_cons pe_str (pa_cons (pe_callB (call_reprW hgd hu) (by rfl) T.rpr (by decide +kernel) (pa_cons (pe_xf S.n.xf S.n.no hz hf (pv 1)) pa_nil)) pa_nil)))))
      (never (x := "NoPast") ⟨rfl, by decide, .inl g0⟩
      (never (x := "NoLot") ⟨rfl, by decide, .inl g1⟩
      (never (x := "NoChange") ⟨rfl, by decide, .inl g2⟩
      (never (x := "NothingBack") ⟨rfl, by decide, .inl g3⟩
      (never (x := "NoCopies") ⟨rfl, by decide, .inl g4⟩
      (never (x := "NoVotes") ⟨rfl, by decide, .inl g5⟩
      (never (x := "NoNeed") ⟨rfl, by decide, .inl g6⟩
      (.cons (x := "NoChances") ⟨rfl, by decide, .inl S.h.gC⟩ (fun a oe cls d pn hz hf => pss_one (ps_ret (pe_lst (pa_cons pe_str (pa_cons (pe_callB (call_reprW hgd hu) (by rfl) T.rpr (by decide +kernel) (pa_cons (pe_xf S.h.xf S.h.no hz hf (pv 1)) pa_nil)) pa_nil)))))
      (never (x := "NoEdit") ⟨rfl, by decide, .inl h0⟩
      (never (x := "NoKey") ⟨rfl, by decide, .inl h1⟩
      (never (x := "NoName") ⟨rfl, by decide, .inl h2⟩
      (never (x := "NoMoment") ⟨rfl, by decide, .inl h3⟩
      (never (x := "TooMany") ⟨rfl, by decide, .inl h4⟩
      .nil)))))))))))))))
    (pss_one (ps_ret pe_non)), ?_⟩
  refine ⟨_, ?_, rfl, hc, h⟩
  rintro cls d σ' H' ⟨dd, v, e, w, hw, rfl, hd, ⟨me, dv⟩, q'⟩ hl
  match σ', hl with
  | [y1, y2], _ =>
  rcases hw with ⟨rfl, rfl⟩ | ⟨rfl, rfl⟩
  · exact ⟨true, S.nn, fun _ a ha => ⟨_, rfl, rfl, rfl, dd, _, v, rfl, hd, rfl, v, e, rfl, dv, (smd_ok me).1, by show 2 ≤ sizeLine; decide, fun l hl => q' l hl⟩, fun q => nomatch q⟩
  · exact ⟨false, S.hn, (fun q => nomatch q), fun _ => ⟨false, g0h, (fun q => nomatch q), fun _ => ⟨false, g1h, (fun q => nomatch q), fun _ => ⟨false, g2h, (fun q => nomatch q), fun _ => ⟨false, g3h, (fun q => nomatch q), fun _ => ⟨false, g4h, (fun q => nomatch q), fun _ => ⟨false, g5h, (fun q => nomatch q), fun _ => ⟨false, g6h, (fun q => nomatch q), fun _ => ⟨true, S.hh, fun _ a ha => ⟨_, rfl, rfl, rfl, dd, _, v, rfl, hd, rfl, v, e, rfl, dv, (smd_ok me).1, by show 2 ≤ sizeLine; decide, fun l hl => q' l hl⟩, fun q => nomatch q⟩⟩⟩⟩⟩⟩⟩⟩⟩
theorem eqv_self {d : PyData} (h : SeqAt.shaped d = true) : PyData.eqv d d = true := by
  have h' : (d.canLay0 && decide (d.depth ≤ 64)) = true := h
  rw [Bool.and_eq_true] at h'
  exact SeqAt.eqv_refl d h'.1
theorem ne_lists {K : PySem.W.Frag} {G : Hp} {p p2 : Addr} {w : Str} {e : PyData} {Q : VK} (hw : w ∈ wordL) (me : SmD e) (hp : G p = some (outL w e)) (hp2 : G p2 = some (outL w e)) (q : Q (.bl false) G) : rNeD K (.ref p) (.ref p2) G Q := by
  have sh := (smd_ok me).2 w hw
  refine ⟨_, _, .lst (SqL.of hp) (.cons (.str _) (.cons (.str _) .nil)), .lst (SqL.of hp2) (.cons (.str _) (.cons (.str _) .nil)), sh, sh, ?_⟩
  rw [eqv_self sh]
  exact q
theorem eq_lists {K : PySem.W.Frag} {G : Hp} {p p2 : Addr} {w : Str} {e : PyData} {Q : VK} (hw : w ∈ wordL) (me : SmD e) (hp : G p = some (outL w e)) (hp2 : G p2 = some (outL w e)) (q : Q (.bl true) G) : rEqD K (.ref p) (.ref p2) G Q := by
  have sh := (smd_ok me).2 w hw
  refine ⟨_, _, .lst (SqL.of hp) (.cons (.str _) (.cons (.str _) .nil)), .lst (SqL.of hp2) (.cons (.str _) (.cons (.str _) .nil)), sh, sh, ?_⟩
  rw [eqv_self sh]
  exact q
theorem if_tried {K : PySem.W.Frag} {Tb : TbL} {c : Fo} {C : Addr} {t : XK → TE} {tR : TE} {v : V} {e : PyData} {w : Str} {σ : L2.St} {G : Hp} {D : Ends} (hw : c.is_ w (.ref C)) (hT : LamX.Tabs Tb G)
    (raise : ∀ (E : XK) (H1 : Hp) (Q' : VK), LamX.ExtN G H1 → Rais C v H1 E → t E σ H1 Q') (od : ∀ H1, LamX.ExtN G H1 → OdV H1 v e)
    (right : ∀ (H1 : Hp) (Q' : VK), LamX.ExtN G H1 → (∀ p2 G2, Same H1 G2 → G2 p2 = some (outL w e) → Q' (.ref p2) G2) → tR σ H1 Q')
    (next : ∀ G', LamX.ExtN G G' → LamX.Tabs Tb G' → D.nx σ G') : tIfS (tTest (tOp (rNeD K) (LamX.tLam Tb (TTr c) t) tR)) (tRet (tC (V.bl false))) tNext D σ G := by
  refine ⟨hT, fun H1 eN T1 => raise _ H1 _ eN fun dd H' s' hd => ⟨dd, v, e, w, hw, rfl, hd, (od H1 eN).same s', fun p hp => ?_⟩⟩
  refine right _ _ (eN.trans (LamX.ExtN.of (s'.trans (same_up hp)))) fun p2 G2 s2 h2 => ?_
  have sA := (s'.trans (same_up (o := outL w e) hp)).trans s2
  exact ne_lists (Fo.word hw) (od H1 eN).1 (s2 _ _ upd_same) h2 ⟨_, rfl, iteF (next G2 (eN.trans (LamX.ExtN.of sA)) (T1.ext sA))⟩
/-- [w, repr(the name in slot i)] -/
theorem due_read {w : Str} {i : Nat} {v : V} {e : PyData} {σ : L2.St} {H1 : Hp} {Q' : VK} (hv : σ[i]? = some (some v)) (od : OdV H1 v e) (q : ∀ p2 G2, Same H1 G2 → G2 p2 = some (outL w e) → Q' (.ref p2) G2) :
    tLst (tCons (tC (V.str w)) (tCons (tCB rReprW (tCons (tVar i) tNil)) tNil)) σ H1 Q' :=
  ⟨v, hv, v, e, rfl, od.2, (smd_ok od.1).1, by show 2 ≤ sizeLine; decide, fun p2 hp2 => q p2 _ (same_up hp2) upd_same⟩
end Pl

namespace Pl
open L2 PySem PySem.Spec PyProof.Rows RZ
/-! ### max(a list of ints, default=d) -/
section
variable {X : Cx}
def rMaxDf (K : PySem.W.Frag) : List V → List V → Hp → VK → Prop := fun vs zs H Q => ∃ (a : Addr) (ns : List Int) (i : Int), vs = [V.ref a] ∧ zs = [.int i] ∧ SqL K H a (ns.map V.int) ∧ ∀ m, ((ns = [] ∧ m = i) ∨ (m ∈ ns ∧ ∀ y, y ∈ ns → y ≤ m)) → Q (.int m) H
theorem fold_max : ∀ (xs : List Int) (x : Int), (xs.foldl max x = x ∨ xs.foldl max x ∈ xs) ∧ x ≤ xs.foldl max x ∧ ∀ y ∈ xs, y ≤ xs.foldl max x
  | [], x => ⟨.inl rfl, Int.le_refl _, fun y hy => by cases hy⟩
  | z :: xs, x => by
    obtain ⟨a, b, c⟩ := fold_max xs (max x z)
    show (xs.foldl max (max x z) = x ∨ xs.foldl max (max x z) ∈ z :: xs) ∧ x ≤ xs.foldl max (max x z) ∧ ∀ y ∈ z :: xs, y ≤ xs.foldl max (max x z)
    have h1 : x ≤ max x z := by omega
    have h2 : z ≤ max x z := by omega
    have h3 : max x z = x ∨ max x z = z := by omega
    refine ⟨?_, Int.le_trans h1 b, fun y hy => ?_⟩
    · rcases a with a | a
      · rw [a]
        rcases h3 with e | e
        · exact .inl e
        · rw [e]
          exact .inr List.mem_cons_self
      · exact .inr (List.mem_cons_of_mem _ a)
    · rcases List.mem_cons.mp hy with e | e
      · rw [e]
        exact Int.le_trans h2 b
      · exact c y e
theorem reads_ints {h : Heap} : ∀ {ns : List Int} {us : List Value}, Vals (ns.map V.int) us → ∃ as, ReadsAll h us (ns.map .int) as
  | [], us, r => by cases r; exact ⟨_, .nil⟩
  | n :: ns, us, r => by
    cases r with
    | cons r1 r2 =>
      obtain ⟨t, rfl⟩ := r1
      obtain ⟨as, q⟩ := reads_ints r2
      exact ⟨_, .cons (.int n t) q⟩
theorem alike_intsZ (ns : List Int) : PySem.W.AlikeAll (ns.map .int) := by
  refine ⟨fun x hx y hy => ?_, fun x hx e => ?_⟩
  · obtain ⟨i, _, rfl⟩ := List.mem_map.mp hx
    obtain ⟨j, _, rfl⟩ := List.mem_map.mp hy
    simp [PySem.W.alike]
  · obtain ⟨i, _, rfl⟩ := List.mem_map.mp hx
    cases e
theorem dep_intZ : ∀ ns : List Int, PyData.depthAll (ns.map .int) = 0
  | [] => by simp only [List.map_nil, PyData.depthAll]
  | n :: ns => by
    rw [List.map_cons]
    simp only [PyData.depthAll, PyData.depth, dep_intZ ns]
    rfl
theorem cr_maxDf (hc : X.calm = true) (hu : X.A.units + 1 < cLine) : CallRK X (.builtin "max") [Str.ofString "default"] (rMaxDf X.K) := by
  intro pins s σ H vs zs us ws Q I r rz h; skip
  obtain ⟨a, ns, i, rfl, rfl, hs, q⟩ := h
  obtain rfl := Vals.ref1 r
  obtain ⟨w1, rfl, t1, e1⟩ := vals1 rz
  subst e1
  obtain ⟨its, rv, hl, hz⟩ := I.list hs; skip
  obtain ⟨as, rd⟩ := reads_ints (h := s.heap) rv
  refine PySem.W.max_list_default (I.ok.hd hc) hl.isList (by simpa using rd) (alike_intsZ ns) (by rw [dep_intZ]; omega) (fun e h' tk k => ?_) fun y ys j v h' tk bs e hv rv' k => ?_
  · have e : ns = [] := List.map_eq_nil_iff.mp e
    exact ⟨.int i, H, I.kept k, ⟨t1, rfl⟩, q _ (.inl ⟨e, rfl⟩)⟩
  · cases ns with
    | nil => cases e
    | cons n ns =>
      cases e
      rw [PySem.W.maxD_ints] at rv'
      cases rv' with
      | int _ t =>
        obtain ⟨m1, m2, m3⟩ := fold_max ns n
        refine ⟨.int _, H, I.kept k, ⟨t, rfl⟩, q _ (.inr ⟨?_, fun y hy => ?_⟩)⟩
        · rcases m1 with e | e
          · rw [e]
            exact List.mem_cons_self
          · exact List.mem_cons_of_mem _ e
        · rcases List.mem_cons.mp hy with e | e
          · rw [e]
            exact m2
          · exact m3 y e
end
/-! ### what is behind a lock -/
theorem same_lock {H G : Hp} {d : Addr} {u f : HO} (e : H d = some u) (s : Same (upd H d f) G) : Same H (upd G d u) := fun b o h => by
  by_cases n : b = d
  · subst n
    rw [upd_same, ← e]
    exact h
  · rw [upd_ne n]
    exact s b o ((upd_ne n).trans h)
theorem ext_lock {H G : Hp} {d : Addr} {u f : HO} (e : H d = some u) (s : LamX.ExtN (upd H d f) G) : LamX.ExtN H (upd G d u) := fun b o h t => by
  by_cases n : b = d
  · subst n
    rw [upd_same, ← e]
    exact h
  · rw [upd_ne n]
    exact s b o ((upd_ne n).trans h) t
theorem tabs_dict {Tb : TbL} {G : Hp} {d : Addr} {kvs : List (List Key × V)} {f : HO} (t : LamX.Tabs Tb G) (h : G d = some (.dT kvs)) : LamX.Tabs Tb (upd G d f) := by
  intro p hp
  obtain ⟨ps, h1, h2, h3⟩ := t p hp
  have n1 : p.1 ≠ d := fun e => by
    rw [e, h] at h1
    cases h1
  refine ⟨ps, (upd_ne n1).trans h1, h2, fun pos cv hc => ?_⟩
  obtain ⟨c, e1, e2⟩ := h3 pos cv hc; skip
  have n2 : c ≠ d := fun e => by
    rw [e, h] at e2
    cases e2
  exact ⟨c, e1, (upd_ne n2).trans e2⟩
theorem tabs_frz {Tb : TbL} {G : Hp} {d : Addr} {u f : HO} {o : Obj} (t : LamX.Tabs Tb G) (h : G d = some (.frz o u)) : LamX.Tabs Tb (upd G d f) := by
  intro p hp
  obtain ⟨ps, h1, h2, h3⟩ := t p hp
  have n1 : p.1 ≠ d := fun e => by
    rw [e, h] at h1
    cases h1
  refine ⟨ps, (upd_ne n1).trans h1, h2, fun pos cv hc => ?_⟩
  obtain ⟨c, e1, e2⟩ := h3 pos cv hc; skip
  have n2 : c ≠ d := fun e => by
    rw [e, h] at e2
    cases e2
  exact ⟨c, e1, (upd_ne n2).trans e2⟩
/-- a dict whose keys are tuples, at its place -/
theorem dT_ne {H : Hp} {d b : Addr} {kvs : List (List Key × V)} {xs : List V} (h : H d = some (.dT kvs)) (e : H b = some (.tup xs)) : b ≠ d := fun z => by
  rw [z, h] at e
  cases e
theorem dT_neL {H : Hp} {d b : Addr} {kvs : List (List Key × V)} {xs : List V} (h : H d = some (.dT kvs)) (e : H b = some (.lst xs)) : b ≠ d := fun z => by
  rw [z, h] at e
  cases e
end Pl

namespace Pl
open PySem
/-! ### counts and votes of greatest worth, reckoned -/
abbrev Rz := Int × Int
def wrS (U : Ups) (v : Z) (nd : Int) : Int := (((subs (rgZ v.length)).filter (writeP v nd)).map fun l => wtN U l v.length).sum
def reS (U : Ups) (v : Z) (nd : Int) (u : Nat) : Int := (((subs (rgZ v.length)).filter (enoughP v nd u)).map fun l => wtN U l v.length).sum
def atL (U : Ups) (n : Nat) (r : Int) : Int := (((subs (rgZ n)).filter fun l => decide ((l.length : Nat) ≥ r)).map fun l => wtN U l n).sum
def worZ (s : Rz) (re wr : Int) : Int := s.1 * re + (s.2 - s.1) * wr
theorem pick_le {f : Z → Int} (h : ∀ l, 0 ≤ f l) (p : Z → Bool) : ∀ ls : List Z, 0 ≤ ((ls.filter p).map f).sum ∧ ((ls.filter p).map f).sum ≤ (ls.map f).sum
  | [] => by simp
  | l :: ls => by
    obtain ⟨a, b⟩ := pick_le h p ls
    have := h l
    rw [List.map_cons, List.sum_cons, List.filter_cons]
    by_cases e : p l = true
    · rw [if_pos e, List.map_cons, List.sum_cons]
      omega
    · rw [if_neg e]
      omega
theorem wrS_b {U : Ups} {v : Z} {nd : Int} (h : Upok U) : 0 ≤ wrS U v nd ∧ wrS U v nd ≤ botN U v.length := by
  have := pick_le (f := fun l => wtN U l v.length) (fun x => (wtN_b h x _).1) (writeP v nd) (subs (rgZ v.length))
  rwa [whole] at this
theorem reS_b {U : Ups} {v : Z} {nd : Int} {u : Nat} (h : Upok U) : 0 ≤ reS U v nd u ∧ reS U v nd u ≤ botN U v.length := by
  have := pick_le (f := fun l => wtN U l v.length) (fun x => (wtN_b h x _).1) (enoughP v nd u) (subs (rgZ v.length))
  rwa [whole] at this
theorem atL_b {U : Ups} {n : Nat} {r : Int} (h : Upok U) : 0 ≤ atL U n r ∧ atL U n r ≤ botN U n := by
  have := pick_le (f := fun l => wtN U l n) (fun x => (wtN_b h x _).1) (fun l => decide ((l.length : Nat) ≥ r)) (subs (rgZ n))
  rwa [whole] at this
/-- a share -/
def Shok (s : Rz) : Prop := 0 ≤ s.1 ∧ s.1 ≤ s.2 ∧ 1 ≤ s.2 ∧ s.2 ≤ 6
theorem worZ_b {s : Rz} {re wr b : Int} (h : Shok s) (r0 : 0 ≤ re) (r1 : re ≤ b) (w0 : 0 ≤ wr) (w1 : wr ≤ b) : 0 ≤ worZ s re wr ∧ worZ s re wr ≤ s.2 * b := by
  obtain ⟨a, c, _, _⟩ := h
  have h1 := Int.mul_le_mul_of_nonneg_left r1 a
  have h2 := Int.mul_le_mul_of_nonneg_left w1 (show 0 ≤ s.2 - s.1 by omega)
  have h3 := Int.mul_nonneg a r0
  have h4 := Int.mul_nonneg (show 0 ≤ s.2 - s.1 by omega) w0
  have h5 : s.1 * b + (s.2 - s.1) * b = s.2 * b := by rw [← Int.add_mul]; congr 1; omega
  unfold worZ
  omega
/-! ### pairs of counts -/
def prC (n u : Int) (i : Nat) : Z := [1 + (i : Int), n + u + 1 - (1 + (i : Int))]
def okP (n : Int) (l : Z) : Bool := decide (1 ≤ l.getD 1 0) && decide (l.getD 1 0 ≤ n)
def cnts (n u : Int) (k : Nat) : List Z := ((List.range k).map (prC n u)).filter (okP n)
theorem cnts_succ (n u : Int) (k : Nat) : cnts n u (k + 1) = cnts n u k ++ (if okP n (prC n u k) = true then [prC n u k] else []) := by
  unfold cnts
  rw [List.range_succ, List.map_append, List.filter_append, List.map_singleton, List.filter_cons]
  rfl
theorem cnts_new (n u : Int) (k : Nat) : prC n u k ∉ cnts n u k := fun h => by
  obtain ⟨h, _⟩ := List.mem_filter.mp h
  obtain ⟨i, hi, e⟩ := List.mem_map.mp h
  rw [List.mem_range] at hi
  have := (List.cons.inj e).1
  omega
theorem cnts_len (n u : Int) (k : Nat) : (cnts n u k).length ≤ k := by
  unfold cnts
  refine Nat.le_trans (List.length_filter_le _ _) ?_
  rw [List.length_map, List.length_range]; skip
  exact Nat.le_refl _
theorem cnts_mem {n u : Int} {k : Nat} {l : Z} (h : l ∈ cnts n u k) : ∃ r w : Int, l = [r, w] ∧ 1 ≤ r ∧ r ≤ k ∧ 1 ≤ w ∧ w ≤ n := by
  obtain ⟨h, e⟩ := List.mem_filter.mp h
  obtain ⟨i, hi, rfl⟩ := List.mem_map.mp h; skip
  rw [List.mem_range] at hi
  unfold okP at e
  rw [Bool.and_eq_true, decide_eq_true_eq, decide_eq_true_eq] at e
  exact ⟨_, _, rfl, by omega, by omega, e.1, e.2⟩
def wC (U : Ups) (n : Nat) (s : Rz) (l : Z) : Int := worZ s (atL U n (l.getD 0 0)) (atL U n (l.getD 1 0))
theorem wC_b {U : Ups} {n : Nat} {s : Rz} (h : Upok U) (hs : Shok s) (l : Z) : 0 ≤ wC U n s l ∧ wC U n s l ≤ s.2 * botN U n := worZ_b hs (atL_b h).1 (atL_b h).2 (atL_b h).1 (atL_b h).2
def mx2 (a b : Int) : Int := if b > a then b else a
def mxZ (l : Z) : Int := l.foldl mx2 (-1)
theorem mxZ_snoc (l : Z) (x : Int) : mxZ (l ++ [x]) = mx2 (mxZ l) x := by
  unfold mxZ
  rw [List.foldl_append]
  rfl
theorem mxZ_rec {p : Z → Prop} (h0 : p []) (h1 : ∀ l x, p l → p (l ++ [x])) : ∀ l, p l := fun l => by
  have key : ∀ r : Z, p r.reverse := fun r => by
    induction r with
    | nil => exact h0
    | cons x r ih =>
      rw [List.reverse_cons]
      exact h1 _ _ ih
  have := key l.reverse
  rwa [List.reverse_reverse] at this
theorem le_mxZ : ∀ l : Z, -1 ≤ mxZ l ∧ ∀ x ∈ l, x ≤ mxZ l := mxZ_rec ⟨by decide, fun x hx => by cases hx⟩ fun l y ⟨a, b⟩ => by
  rw [mxZ_snoc]
  unfold mx2
  refine ⟨by split <;> omega, fun x hx => ?_⟩
  rcases List.mem_append.mp hx with h | h
  · have := b x h
    split <;> omega
  · rw [List.mem_singleton] at h
    split <;> omega
theorem mxZ_mem : ∀ l : Z, mxZ l = -1 ∨ mxZ l ∈ l := mxZ_rec (.inl rfl) fun l y h => by
  rw [mxZ_snoc]
  unfold mx2
  split
  · exact .inr (List.mem_append_right _ List.mem_cons_self)
  · exact h.imp id (List.mem_append_left _)
/-- the greatest of those told -/
theorem mxZ_is {l : Z} {m : Int} (nn : ∀ x ∈ l, 0 ≤ x) (h : m ∈ l) (g : ∀ x ∈ l, x ≤ m) : m = mxZ l := by
  have h1 := (le_mxZ l).2 m h
  have h2 := nn m h
  rcases mxZ_mem l with e | e
  · omega
  · have := g _ e
    omega
def topC (f : Z → Int) (ls : List Z) : List Z := ls.filter fun l => decide (f l = mxZ (ls.map f))
theorem topC_snoc (f : Z → Int) (ls : List Z) (l : Z) : topC f (ls ++ [l]) = if f l = mxZ (ls.map f) then topC f ls ++ [l] else if f l > mxZ (ls.map f) then [l] else topC f ls := by
  unfold topC
  rw [List.map_append, List.map_singleton, mxZ_snoc, List.filter_append, List.filter_cons]
  have hle := (le_mxZ (ls.map f)).2
  generalize mxZ (ls.map f) = m at hle
  unfold mx2
  by_cases e : f l = m
  · rw [if_pos e, if_neg (by omega), if_pos (decide_eq_true e)]
    rfl
  · rw [if_neg e]
    by_cases g : f l > m
    · have em : (if f l > m then f l else m) = f l := if_pos g
      rw [em, if_pos g, if_pos (decide_eq_true rfl), List.filter_eq_nil_iff.mpr fun x hx => ?_]
      · rfl
      · have := hle (f x) (List.mem_map.mpr ⟨x, hx, rfl⟩)
        rw [decide_eq_true_eq]
        omega
    · have em : (if f l > m then f l else m) = m := if_neg g
      rw [em, if_neg g, if_neg (by rw [decide_eq_true_eq]; exact e)]
      simp
/-! ### all votes, all needs -/
def votesL : Nat → List Z
  | 0 => [[]]
  | k + 1 => (votesL k).flatMap fun v => (rgZ 4).map fun x => v ++ [x]
theorem votesL_mem : ∀ {k : Nat} {v : Z}, v ∈ votesL k → v.length = k ∧ ∀ x ∈ v, 0 ≤ x ∧ x ≤ 3
  | 0, v, h => by
    have h : v ∈ ([[]] : List Z) := h
    rw [List.mem_singleton] at h
    subst h
    exact ⟨rfl, fun x hx => by cases hx⟩
  | k + 1, v, h => by
    obtain ⟨w, hw, h⟩ := List.mem_flatMap.mp h
    obtain ⟨x, hx, rfl⟩ := List.mem_map.mp h
    obtain ⟨a, b⟩ := votesL_mem hw
    have hx := (rgZ_lot 4).2 x hx
    refine ⟨by rw [List.length_append, a]; rfl, fun y hy => ?_⟩
    rcases List.mem_append.mp hy with h | h
    · exact b y h
    · rw [List.mem_singleton] at h
      omega
theorem flat4 {f : Z → List Z} (h : ∀ v, (f v).length = 4) : ∀ ls : List Z, (ls.flatMap f).length = 4 * ls.length
  | [] => rfl
  | v :: ls => by
    rw [List.flatMap_cons, List.length_append, h, flat4 h ls, List.length_cons]
    omega
theorem votesL_len : ∀ k : Nat, (votesL k).length = 4 ^ k
  | 0 => rfl
  | k + 1 => by
    show ((votesL k).flatMap _).length = _
    rw [flat4 fun v => by rw [List.length_map]; rfl, votesL_len k, Nat.pow_succ, Nat.mul_comm]
abbrev Cd := Z × Int × Int
def fullS (v : Z) (u : Nat) : Int := sureP v u (rgZ v.length)
def needL (v : Z) (u : Nat) : Z := (List.range (fullS v u).toNat).map fun i : Nat => v.sum - fullS v u + 1 + (i : Int)
def wV (U : Ups) (s : Rz) (u : Nat) (v : Z) (nd : Int) : Int := worZ s (reS U v nd u) (wrS U v nd)
def candL (U : Ups) (s : Rz) (u : Nat) (v : Z) : List Cd := (needL v u).map fun nd => (v, nd, wV U s u v nd)
def gr : Option Cd → Int
  | none => -1
  | some c => c.2.2
def stepG (b : Option Cd) (c : Cd) : Option Cd := if c.2.2 > gr b then some c else b
def bestL (cs : List Cd) : Option Cd := cs.foldl stepG none
def bestU (U : Ups) (s : Rz) (u : Nat) (n : Nat) : Option Cd := bestL ((votesL n).flatMap (candL U s u))
theorem bestL_snoc (cs : List Cd) (c : Cd) : bestL (cs ++ [c]) = stepG (bestL cs) c := by
  unfold bestL
  rw [List.foldl_append]
  rfl
theorem bestL_mem {cs : List Cd} : ∀ {c : Cd}, bestL cs = some c → c ∈ cs := fun {c} => by
  have key : ∀ (cs : List Cd) (b : Option Cd) (c : Cd), cs.foldl stepG b = some c → b = some c ∨ c ∈ cs := fun cs => by
    induction cs with
    | nil => exact fun b c h => .inl h
    | cons d cs ih =>
      intro b c h
      rcases ih _ c h with e | e
      · unfold stepG at e
        split at e
        · exact .inr (by cases e; exact List.mem_cons_self)
        · exact .inl e
      · exact .inr (List.mem_cons_of_mem _ e)
  intro h
  rcases key cs none c h with e | e
  · cases e
  · exact e
theorem wV_b {U : Ups} {s : Rz} (h : Upok U) (hs : Shok s) (u : Nat) (v : Z) (nd : Int) : 0 ≤ wV U s u v nd ∧ wV U s u v nd ≤ s.2 * botN U v.length := worZ_b hs (reS_b h).1 (reS_b h).2 (wrS_b h).1 (wrS_b h).2
/-- those of all needs with which the whole is enough -/
theorem fullS_b {v : Z} (h : ∀ x ∈ v, 0 ≤ x) (u : Nat) : 0 ≤ fullS v u ∧ fullS v u ≤ v.sum := by
  have e1 : vsum v (rgZ v.length) = v.sum := rgN_sum v
  have e2 := vsum_nn h (heavy v u (rgZ v.length))
  have e3 := sure_drop v u (rgZ v.length)
  have nn : ∀ l : Z, (∀ x ∈ l, 0 ≤ x) → 0 ≤ l.sum := fun l => by
    induction l with
    | nil => intro _; simp
    | cons x l ih =>
      intro hh
      have h1 := hh x List.mem_cons_self
      have h2 := ih fun y hy => hh y (List.mem_cons_of_mem _ hy)
      rw [List.sum_cons]
      omega
  have e4 := nn ((((rgZ v.length).mergeSort (leV v)).map (vt v)).drop u) fun x hx => by
    obtain ⟨c, _, rfl⟩ := List.mem_map.mp (List.mem_of_mem_drop hx)
    exact vt_nn h c
  unfold fullS
  constructor
  · rw [e3]
    exact e4
  · unfold sureP
    omega
theorem need_filt {v : Z} (h : ∀ x ∈ v, 0 ≤ x) (u : Nat) : ((List.range v.sum.toNat).map fun i : Nat => 1 + (i : Int)).filter (fun nd => enoughP v nd u (rgZ v.length)) = needL v u := by
  obtain ⟨a, b⟩ := fullS_b h u
  obtain ⟨m, hm⟩ : ∃ m : Nat, fullS v u = m := ⟨(fullS v u).toNat, by omega⟩
  obtain ⟨t, ht⟩ : ∃ t : Nat, v.sum = m + t := ⟨(v.sum - m).toNat, by omega⟩
  have en : ∀ nd, enoughP v nd u (rgZ v.length) = decide ((m : Int) > m + t - nd) := fun nd => by
    unfold enoughP
    rw [show sureP v u (rgZ v.length) = m from hm, ht]
  rw [show v.sum.toNat = t + m by omega, List.range_add, List.map_append, List.filter_append]
  unfold needL
  rw [hm, ht, show ((m : Int)).toNat = m from rfl, List.filter_eq_nil_iff.mpr, List.nil_append, List.filter_eq_self.mpr, List.map_map]
  · refine List.map_congr_left fun i _ => ?_
    show 1 + ((t + i : Nat) : Int) = _
    omega
  · intro x hx
    obtain ⟨j, hj, rfl⟩ := List.mem_map.mp hx
    obtain ⟨i, hi, rfl⟩ := List.mem_map.mp hj
    rw [en, decide_eq_true_eq]
    omega
  · intro x hx
    obtain ⟨j, hj, rfl⟩ := List.mem_map.mp hx
    rw [List.mem_range] at hj
    rw [en, decide_eq_true_eq]
    omega
theorem cand_zero {U : Ups} {s : Rz} {u : Nat} {v : Z} (h : ∀ x ∈ v, 0 ≤ x) (z : ¬ 0 < v.sum) : candL U s u v = [] := by
  obtain ⟨a, b⟩ := fullS_b h u
  unfold candL needL
  rw [show (fullS v u).toNat = 0 by omega]
  rfl
theorem flat_pos {U : Ups} {s : Rz} {u : Nat} : ∀ {vs : List Z}, (∀ v ∈ vs, ∀ x ∈ v, 0 ≤ x) → (vs.filter fun v => decide (v.sum > 0)).flatMap (candL U s u) = vs.flatMap (candL U s u)
  | [], _ => rfl
  | v :: vs, h => by
    have ih := flat_pos (U := U) (s := s) (u := u) fun w hw => h w (List.mem_cons_of_mem _ hw)
    rw [List.filter_cons, List.flatMap_cons]
    by_cases e : v.sum > 0
    · rw [if_pos (decide_eq_true e), List.flatMap_cons, ih]
    · rw [if_neg (by rw [decide_eq_true_eq]; exact e), ih, cand_zero (h v List.mem_cons_self) e]
      rfl
theorem parts_nodup {n : Nat} (h : n ≤ 5) : (parts (rgZ (n : Int))).Nodup := by
  rw [(parts_perm _).nodup_iff]
  have : n = 0 ∨ n = 1 ∨ n = 2 ∨ n = 3 ∨ n = 4 ∨ n = 5 := by omega
  rcases this with rfl | rfl | rfl | rfl | rfl | rfl <;> decide +kernel
/-- the last lot is the whole -/
theorem parts_last (u : Z) : (parts u).getLast? = some u := by
  have hu : u ∈ parts u := mem_parts.mpr (List.Sublist.refl _)
  obtain ⟨x, hx⟩ : ∃ x, (parts u).getLast? = some x := by
    cases e : (parts u).getLast? with
    | none => rw [List.getLast?_eq_none_iff] at e; rw [e] at hu; cases hu
    | some x => exact ⟨x, rfl⟩
  have ps := parts_sorted u
  obtain ⟨ys, e⟩ := List.getLast?_eq_some_iff.mp hx
  have xm : x ∈ parts u := by rw [e]; exact List.mem_append_right _ List.mem_cons_self
  have xs := mem_parts.mp xm
  rw [hx]
  congr 1
  refine xs.eq_of_length_le ?_
  rw [e] at ps hu
  rcases List.mem_append.mp hu with h | h
  · exact (List.pairwise_append.mp ps).2.2 u h x List.mem_cons_self
  · rw [List.mem_singleton] at h
    rw [h]
    exact Nat.le_refl _
end Pl

namespace Pl
open L2 PySem PySem.Spec PyProof.Rows RZ
theorem dget_frz {H : Hp} {d b : Addr} {o : Obj} {f : Z → Int} {ls : List Z} {l : Z} (h : H d = some (.frz o (.dT (kvO f ls)))) (hb : H b = some (.tup (l.map V.int))) (m : l ∈ ls) : DGet H d (.ref b) (some (.int (f l))) :=
  .inr ⟨kvO f ls, kOf l, b, .inr ⟨o, h⟩, rfl, by rw [kOf_V]; exact hb, (kvO_val m).symm⟩
theorem kvO_len (f : Z → Int) (ls : List Z) : (kvO f ls).length = ls.length := List.length_map _
theorem kvO_at {f : Z → Int} {ls : List Z} {i : Nat} {k : List Key} {v : V} (h : (kvO f ls)[i]? = some (k, v)) : ∃ l, ls[i]? = some l ∧ k = kOf l ∧ v = .int (f l) := by
  unfold kvO at h
  rw [List.getElem?_map] at h
  cases e : ls[i]? with
  | none =>
    rw [e] at h
    cases h
  | some l =>
    rw [e] at h
    cases h
    exact ⟨l, rfl, rfl, rfl⟩
def CkH (K : PySem.W.Frag) (CH : Addr) (v : V) (H : Hp) (E : XK) (G : Prop) : Prop := ∃ o, Tz K H v o ∧ (chaT o = false → Rais CH v H E) ∧ (chaT o = true → G)
def spCkH (K : PySem.W.Frag) (CH : Addr) : Sp := fun vs H Q E => ∃ (v : V), vs = [v] ∧ CkH K CH v H E (∀ G, Same H G → Q .non G)
def spAtL : Sp := fun vs H Q _ => ∃ (d : Addr) (r : Int) (f : Z → Int) (ls : List Z), vs = [.ref d, .int r] ∧ H d = some (.dT (kvO f ls)) ∧ ls.length ≤ 100 ∧ ∀ G, Same H G → Q (.int (((ls.filter fun l => decide ((l.length : Nat) ≥ r)).map f).sum)) G
def Share (H : Hp) (a : Addr) (s : Rz) : Prop := H a = some (.tup [.int s.1, .int s.2])
def spWorth : Sp := fun vs H Q _ => ∃ (a : Addr) (s : Rz) (re wr : Int), vs = [.ref a, .int re, .int wr] ∧ Share H a s ∧ Shok s ∧ Q (.int (worZ s re wr)) H
abbrev nAt : List Str := ["weights", "count", "lot"]
section
variable {P : Program} {K : PySem.W.Frag} {w : World} {base : Heap} {mg : Str → Option Value} {CC CH : Addr} {Tb : TbL}
theorem scCkH : FnScope ["value"] ["value"] (defScope sCkChance) := ⟨rfl, rfl, rfl, by decide +kernel, rfl, by decide +kernel, by decide +kernel⟩
theorem ok_ckh {f : Addr} {fd : FuncData} (F : Fun K "_check_chance" "_check_chance" sCkChance f fd) (M : Mak P w K mg base "NoChances" CH) (D1 : Df P w K mg base 4 "is_chance" ["value"] (spRat K chaT)) : FnOk P w K mg base (L2.CX P w) 5 f fd ["value"] (spCkH K CH) := by
  obtain ⟨e1, fd1, G1, m1, k1, b1⟩ := D1.ex
  obtain ⟨fI, fdI, TE, GI, bI⟩ := M.ex
  refine F.okX scCkH (fun vs H Q E h => ?_) (fun cdv A outer s H vs Q E hr h => ?_)
  · obtain ⟨v, rfl, _⟩ := h
    rfl
  · obtain ⟨v, rfl, o, hz, q1, q2⟩ := h
    refine ⟨_, pss_one (ps_if (pt_not (pt_val (pe_call G1 hr (by rfl) m1 k1 b1 .nil pass0 (pa_cons (pv 0) pa_nil))))
      (pss_one (ps_raise rfl (takes_of rfl rfl rfl rfl) (pmk_oex TE.ox TE.iC TE.tI GI (hr.mono (by decide)) bI .nil pass0 (by rfl) TE.gC (pa_cons (pv 0) pa_nil)))) pss_nil), ?_⟩
    refine ⟨v, rfl, v, o, rfl, hz, fun G s1 => ⟨_, rfl, ?_⟩⟩
    refine ite2 (fun e => raised_v TE.ox TE.no rfl ((q1 (by simpa using e)).same s1)) fun e => q2 (by simpa using e) G s1
theorem scAt : FnScope nAt ["weights", "count"] (defScope sAtLeast) := ⟨rfl, rfl, rfl, by decide +kernel, rfl, by decide +kernel, by decide +kernel⟩
theorem ok_at {f : Addr} {fd : FuncData} (F : Fun K "_at_least" "_at_least" sAtLeast f fd) (T : Cst mg) : FnOk P w K mg base CX0 1 f fd ["weights", "count"] spAtL := by
  refine F.ok scAt (fun vs H Q E h => ?_) (fun cdv A outer s0 H vs Q E hr h => ?_)
  · obtain ⟨d, r, f, ls, rfl, _⟩ := h
    rfl
  · obtain ⟨d, r, wt, ls, rfl, hd, l100, q⟩ := h
    have hu : (A.deeper (envOfC "_at_least" (defScope sAtLeast) s0.heap.objs.size f cdv)).units + 1 < cLine := by
      have := hr.un
      omega
    refine ⟨_, pss_one (ps_ret (pe_callB (cr_sum rfl) (by rfl) T.sum_ (by decide +kernel) (pa_cons (pe_lock (pe_lc (own := [("lot", 2)]) (g := gName 2) (tt := _) rfl scAt.nd (pi_keys (pv 0)) (blkOk_by (own := [("lot", 2)]) (N := nAt) (sc := defScope sAtLeast) (by decide +kernel))
          (fun _ _ _ _ _ => pg_name (i := 2) scAt.nd rfl (Or.inl rfl)) (fun _ _ _ _ _ => pts_one (pt_cmpR op_ge (pe_callB (show CallR _ (.builtin "len") (rLenQ K) from call_len_seq) (by rfl) T.len PySem.boot_len (pa_cons (pv 2) pa_nil)) (pv 1) (nomark _))) (fun _ _ _ _ _ => pe_dget hu (pv 0) (pv 2) (fun _ _ => rfl)))) pa_nil))), ?_⟩
    refine ⟨d, _, hd, trivial, fun od => ?_⟩
    have fd : upd H d (.frz od (.dT (kvO wt ls))) d = some (.frz od (.dT (kvO wt ls))) := upd_same
    have bk : ∀ G, Same (upd H d (.frz od (.dT (kvO wt ls)))) G → Same H (upd G d (.dT (kvO wt ls))) := fun G s => same_lock hd s
    generalize upd H d (.frz od (.dT (kvO wt ls))) = Gb at fd bk ⊢
    refine ⟨_, rfl, d, od, rfl, .inr ⟨_, fd, fun D hD => ?_⟩⟩
    have hk := kvO_len wt ls
    refine walk_core (walk_keysT (d := d) (o := od) (kvs := kvO wt ls)) (fun i F => Same Gb F ∧ F D = some (.lst ((((ls.take i).filter fun l => decide ((l.length : Nat) ≥ r)).map wt).map V.int))) ⟨same_up hD, upd_same⟩ (fun _ _ _ g => g.1 _ _ fd) ?_ ?_
    · rintro i y F F' hi ⟨s1, hD1⟩ ⟨rfl, k, v, b, hkv, rfl, hb⟩
      obtain ⟨l, hl, rfl, rfl⟩ := kvO_at hkv
      rw [kOf_V] at hb
      have fs := filt_snoc hl (fun l : Z => decide (((l.length : Nat) : Int) ≥ r))
      refine ⟨rfl, _, rfl, b, _, rfl, .inr (SqT.of hb), _, rfl, rI0_to rfl ⟨_, rfl, ?_⟩⟩
      rw [List.length_map]
      refine ite2 (fun e => ?_) fun e => ?_
      · rw [if_pos e] at fs
        refine ⟨_, rfl, _, rfl, d, _, rfl, dget_frz (s1 _ _ fd) hb (List.mem_of_getElem? hl), _, hD1, small1000 (by rw [List.length_map, List.length_map]; exact Nat.le_trans (filt_len ls i _) (by omega)), sup hD s1, ?_⟩
        rw [upd_same, fs, List.map_append, List.map_append]
        rfl
      · rw [if_neg e, List.append_nil] at fs
        exact ⟨s1, by rw [fs]; exact hD1⟩
    · rintro F ⟨s1, hD1⟩
      rw [hk, List.take_length] at hD1
      refine ⟨s1 _ _ fd, D, _, rfl, SqL.of (xs := (((ls.filter fun l => decide ((l.length : Nat) ≥ r)).map wt).map V.int)) ?_, q _ (bk F s1)⟩
      rw [upd_ne fun z => by rw [z, s1 _ _ fd] at hD1; cases hD1]
      exact hD1
theorem scWo : FnScope ["share", "readable", "writable"] ["share", "readable", "writable"] (defScope sWorth) := ⟨rfl, rfl, rfl, by decide +kernel, rfl, by decide +kernel, by decide +kernel⟩
theorem ok_wo {f : Addr} {fd : FuncData} (F : Fun K "_worth" "_worth" sWorth f fd) : FnOk P w K mg base CX0 1 f fd ["share", "readable", "writable"] spWorth := by
  refine F.ok scWo (fun vs H Q E h => ?_) (fun cdv A outer s0 H vs Q E hr h => ?_)
  · obtain ⟨a, s, re, wr, rfl, _⟩ := h
    rfl
  · obtain ⟨a, s, re, wr, rfl, ha, ⟨s0_, s1_, s2_, s3_⟩, q⟩ := h
    refine ⟨_, pss_one (ps_ret (pe_op op_add (pe_op op_mul (pe_ix (show IxR _ (rIxT K) from ix_tup) (pv 0) pe_int (fun _ _ => rfl)) (pv 1)) (pe_op op_mul (pe_op op_sub (pe_ix (show IxR _ (rIxT K) from ix_tup) (pv 0) pe_int (fun _ _ => rfl)) (pe_ix (show IxR _ (rIxT K) from ix_tup) (pv 0) pe_int (fun _ _ => rfl))) (pv 2)))), ?_⟩
    refine ⟨_, rfl, a, _, _, .int s.1, rfl, rfl, SqT.of ha, atI_nat (j := 0) rfl, _, rfl, _, _, rfl, rfl, .inl ⟨by omega, by omega⟩, ?_⟩
    refine ⟨_, rfl, a, _, _, .int s.2, rfl, rfl, SqT.of ha, atI_nat (j := 1) rfl, _, rfl, a, _, _, .int s.1, rfl, rfl, SqT.of ha, atI_nat (j := 0) rfl, ?_⟩
    exact rI0_to rfl ⟨_, rfl, _, _, rfl, rfl, .inl ⟨by omega, by omega⟩, rI0_to rfl q⟩
end
end Pl

namespace Pl
open L2 PySem PySem.Spec PyProof.Rows RZ
/-- a chance of small parts -/
def Cok (x : Rz) : Prop := 0 ≤ x.1 ∧ x.1 ≤ x.2 ∧ 1 ≤ x.2 ∧ x.2 ≤ 6 ∧ Nat.gcd x.1.natAbs x.2.natAbs = 1
theorem Cok.sh {x : Rz} (h : Cok x) : Shok x := ⟨h.1, h.2.1, h.2.2.1, h.2.2.2.1⟩
theorem cok_rep {x : Rz} (h : Cok x) {n : Nat} (l : n ≤ 5) : Upok (List.replicate n x) := ⟨by rw [List.length_replicate]; exact l, fun p hp => by rw [List.eq_of_mem_replicate hp]; exact h⟩
theorem rep_n (n : Nat) (x : V) : (List.replicate ((n : Int)).toNat [x]).flatten = List.replicate n x := by
  show (List.replicate n [x]).flatten = _
  induction n with
  | zero => rfl
  | succ n ih => rw [List.replicate_succ, List.flatten_cons, ih, List.replicate_succ]; rfl
theorem rep_au (n : Nat) (a : Addr) (x : Rz) : List.replicate n (V.ref a) = urefs (List.replicate n (a, x)) := by
  unfold urefs
  rw [List.map_replicate]
theorem atL_parts (U : Ups) (n : Nat) (r : Int) : (((parts (rgZ n)).filter fun l => decide ((l.length : Nat) ≥ r)).map fun l => wtN U l n).sum = atL U n r := sum_parts _ _ _
def spBestC (K : PySem.W.Frag) (Tb : TbL) (CC CH : Addr) : Sp := fun vs H Q E => ∃ (n : Int) (u up sh : V), vs = [.int n, u, up, sh] ∧ (within (.int n) 1 5 = false → Rais CC (.int n) H E) ∧ (within (.int n) 1 5 = true → CkU CC n.toNat u H E (CkH K CH up H E (CkH K CH sh H E (∃ (un : Int) (ua sa : Addr) (x s : Rz), u = .int un ∧ up = .ref ua ∧ sh = .ref sa ∧ Share H ua x ∧ Share H sa s ∧ Cok x ∧ Cok s ∧ 0 ≤ un ∧ un ≤ n ∧ LamX.Tabs Tb H ∧
  ∀ p L G, LamX.ExtN H G → LamX.Tabs Tb G → Lots G p L → L.map (·.2) = topC (wC (List.replicate n.toNat x) n.toNat s) (cnts n un n.toNat) → Q (.ref p) G))))
abbrev psBC : List Str := ["count", "unruly", "up", "share"]
abbrev nBC : List Str := ["count", "unruly", "up", "share", "weights", "worths", "reads", "writes", "greatest", "pair"]
section
variable {P : Program} {K : PySem.W.Frag} {w : World} {base : Heap} {mg : Str → Option Value} {CC CH : Addr} {Tb : TbL}
theorem scBC : FnScope nBC psBC (defScope sBestC) := ⟨rfl, rfl, rfl, by decide +kernel, rfl, by decide +kernel, by decide +kernel⟩
theorem ok_bc {f : Addr} {fd : FuncData} (F : Fun K "best_counts" "best_counts" sBestC f fd) (T : Cst mg) (MC : Mak P w K mg base "NoCount" CC) (D2 : Df P w K mg base 2 "is_within" ["value", "least", "most"] spW) (D3 : DfX P w K mg base 3 "check_unruly" ["unruly", "count"] (spCkU CC)) (D4 : DfX P w K mg base 5 "_check_chance" ["value"] (spCkH K CH)) (D5 : Df P w K mg base 4 "_lots_of" ["count"] (spLotsOf Tb))
    (D6 : Df P w K mg base 1 "_weights" ["lots", "ups"] spWts) (D7 : Df P w K mg base 1 "_at_least" ["weights", "count"] spAtL) (D8 : Df P w K mg base 1 "_worth" ["share", "readable", "writable"] spWorth) : FnOk P w K mg base (L2.CX P w) 6 f fd psBC (spBestC K Tb CC CH) := by
  obtain ⟨t5, h5⟩ := T.copies
  obtain ⟨e2, fd2, G2, m2, k2, b2⟩ := D2.ex
  obtain ⟨e3, fd3, G3, m3, k3, b3⟩ := D3.ex
  obtain ⟨e4, fd4, G4, m4, k4, b4⟩ := D4.ex
  obtain ⟨e5, fd5, G5, m5, k5, b5⟩ := D5.ex
  obtain ⟨e6, fd6, G6, m6, k6, b6⟩ := D6.ex
  obtain ⟨e7, fd7, G7, m7, k7, b7⟩ := D7.ex
  obtain ⟨e8, fd8, G8, m8, k8, b8⟩ := D8.ex
  obtain ⟨fI, fdI, TE, GI, bI⟩ := MC.ex
  refine F.okX scBC (fun vs H Q E h => ?_) (fun cdv A outer s0 H vs Q E hr h => ?_)
  · obtain ⟨n, u, up, sh, rfl, _⟩ := h
    rfl
  · obtain ⟨n, u, up, sh, rfl, r1, g⟩ := h
    have hu : (A.deeper (envOfC "best_counts" (defScope sBestC) s0.heap.objs.size f cdv)).units + 1 < cLine := by
      have := hr.un
      omega
    refine ⟨_, pss_cons (ps_if (pt_not (pt_val (pe_call G2 (hr.mono (by decide)) (by rfl) m2 k2 b2 .nil pass0 (pa_cons (pv 0) (pa_cons pe_int (pa_cons (pe_glob (v := .int 5) (by rfl) h5 ⟨_, rfl⟩) pa_nil))))))
        (pss_one (ps_raise rfl (takes_of rfl rfl rfl rfl) (pmk_oex TE.ox TE.iC TE.tI GI (hr.mono (by decide)) bI .nil pass0 (by rfl) TE.gC (pa_cons (pv 0) pa_nil)))) pss_nil)
      (pss_cons (ps_expr (pe_call (E := E) G3 (hr.mono (by decide)) (by rfl) m3 k3 b3 .nil (passes_call (takes_of rfl rfl rfl rfl) fun _ _ _ _ h => h) (pa_cons (pv 1) (pa_cons (pv 0) pa_nil))))
      (pss_cons (ps_expr (pe_call (E := E) G4 (hr.mono (by decide)) (by rfl) m4 k4 b4 .nil (passes_call (takes_of rfl rfl rfl rfl) fun _ _ _ _ h => h) (pa_cons (pv 2) pa_nil)))
      (pss_cons (ps_expr (pe_call (E := E) G4 (hr.mono (by decide)) (by rfl) m4 k4 b4 .nil (passes_call (takes_of rfl rfl rfl rfl) fun _ _ _ _ h => h) (pa_cons (pv 3) pa_nil)))
      (pss_cons (ps_set (i := 4) scBC.nd rfl (Or.inl rfl) (pe_call G6 (hr.mono (by decide)) (by rfl) m6 k6 b6 .nil pass0 (pa_cons (pe_call G5 (hr.mono (by decide)) (by rfl) m5 k5 b5 .nil pass0 (pa_cons (pv 0) pa_nil)) (pa_cons (pe_op (show OpR _ (binaryOp .Mult) rRep from op_rep) (pe_lst (pa_cons (pv 2) pa_nil)) (pv 0)) pa_nil))))
      (pss_cons (ps_set (i := 5) scBC.nd rfl (Or.inr rfl) pe_dnewT)
      (pss_cons (ps_for (passes_of rfl) rfl (pi_range2 (by rfl) T.rng (pa_cons pe_int (pa_cons (pe_op op_add (pv 0) pe_int) pa_nil))) (pg_name (i := 6) scBC.nd rfl (Or.inl rfl))
        (pss_cons (ps_set (i := 7) scBC.nd rfl (Or.inl rfl) (pe_op op_sub (pe_op op_add (pe_op op_add (pv 0) (pv 1)) pe_int) (pv 6)))
        (pss_one (ps_if (pt_chain op_le op_le pe_int (pv 7) (pv 0))
          (pss_one (ps_dput hu (pv 5) (pe_tup (pa_cons (pv 6) (pa_cons (pv 7) pa_nil))) (pe_call G8 (hr.mono (by decide)) (by rfl) m8 k8 b8 .nil pass0 (pa_cons (pv 3) (pa_cons (pe_call G7 (hr.mono (by decide)) (by rfl) m7 k7 b7 .nil pass0 (pa_cons (pv 4) (pa_cons (pv 6) pa_nil))) (pa_cons (pe_call G7 (hr.mono (by decide)) (by rfl) m7 k7 b7 .nil pass0 (pa_cons (pv 4) (pa_cons (pv 7) pa_nil))) pa_nil)))) rfl)) pss_nil))))
      (pss_cons (ps_set (i := 8) scBC.nd rfl (Or.inr rfl) (pe_callBK (cr_maxDf rfl hu) (by rfl) T.max_ (by decide +kernel) (pa_cons (pe_listValsT rfl (pv 5) (by rfl) T.tlst) pa_nil) (pk_cons pe_int pk_nil)))
      (pss_one (ps_ret (pe_lock (pe_lc (own := [("pair", 9)]) (g := gName 9) (tt := _) rfl scBC.nd (pi_keys (pv 5)) (blkOk_by (own := [("pair", 9)]) (N := nBC) (sc := defScope sBestC) (by decide +kernel))
          (fun _ _ _ _ _ => pg_name (i := 9) scBC.nd rfl (Or.inl rfl)) (fun _ _ _ _ _ => pts_one (pt_cmpR op_eq (pe_dget hu (pv 5) (pv 9) (fun _ _ => rfl)) (pv 8) (nomark _))) (fun _ _ _ _ _ => pv 9)))))))))))), ?_⟩
    refine ⟨_, rfl, _, .int n, 1, 5, rfl, .fl (.int n), ⟨_, rfl, ?_⟩⟩
    refine ite2 (fun e => raised_v TE.ox TE.no rfl (r1 (by simpa using e))) fun e => ?_
    have e : within (.int n) 1 5 = true := by simpa using e
    have hn : 1 ≤ n ∧ n ≤ 5 := by
      have e' : (decide (1 ≤ n) && decide (n ≤ 5)) = true := e
      rwa [Bool.and_eq_true, decide_eq_true_eq, decide_eq_true_eq] at e'
    obtain ⟨k, rfl⟩ : ∃ k : Nat, n = k := ⟨n.toNat, by omega⟩
    have kn : ((k : Int)).toNat = k := rfl
    rw [kn] at g
    obtain ⟨du, nu, badU, goodU⟩ := g e
    refine ⟨u, rfl, _, rfl, u, du, k, rfl, nu, badU, fun okU => ?_⟩
    obtain ⟨o1, tz1, bad1, good1⟩ := goodU okU
    refine ⟨up, rfl, up, rfl, o1, tz1, bad1, fun ok1 G1 s1 => ?_⟩
    obtain ⟨o2, tz2, bad2, good2⟩ := good1 ok1
    refine ⟨sh, rfl, sh, rfl, o2, tz2.same s1, fun no => (bad2 no).same s1, fun ok2 G2 s2 => ?_⟩
    obtain ⟨un, ua, sa, x, s, rfl, rfl, rfl, hx, hs, cx, cs, un0, un1, hT, q⟩ := good2 ok2
    have s12 := s1.trans s2
    refine ⟨_, rfl, k, rfl, by omega, by omega, hT.ext s12, fun p L G3 e3 t3 hL eL => ?_⟩
    have e03 := (LamX.ExtN.of s12).trans e3
    have hx3 : Share G3 ua x := ext_tp e03 hx
    have hs3 : Share G3 sa s := ext_tp e03 hs
    refine ⟨_, rfl, by show 1 ≤ sizeLine; decide, fun b1 hb1 => ?_⟩
    have s4 : Same G3 (upd G3 b1 (.lst [.ref ua])) := same_up hb1
    have f4 : upd G3 b1 (.lst [.ref ua]) b1 = some (.lst [.ref ua]) := upd_same
    generalize upd G3 b1 (.lst [.ref ua]) = G4 at s4 f4 ⊢
    refine ⟨_, rfl, b1, k, [.ref ua], rfl, rfl, f4, by omega, by omega, by show 1 * (k : Int).toNat ≤ sizeLine; rw [sizeLine_eq]; omega, fun b2 hb2 => ?_⟩
    rw [rep_n, rep_au]
    have s5 : Same G4 (upd G4 b2 (.lst (urefs (List.replicate k (ua, x))))) := same_up hb2
    have f5 : upd G4 b2 (.lst (urefs (List.replicate k (ua, x)))) b2 = some (.lst (urefs (List.replicate k (ua, x)))) := upd_same
    generalize upd G4 b2 (.lst (urefs (List.replicate k (ua, x)))) = G5 at s5 f5 ⊢
    have s35 := s4.trans s5
    have lL : L.length ≤ 32 := by
      have e := congrArg List.length eL
      rw [List.length_map, (parts_perm _).length_eq, subs_len, rgZ_len] at e
      rw [e]
      exact pow5 (by omega)
    have eR : (List.replicate k (ua, x)).map (·.2) = List.replicate k x := by rw [List.map_replicate]
    refine ⟨p, b2, L, List.replicate k (ua, x), rfl, hL.same s35, ⟨.inl f5, fun r hr => ?_⟩, by rw [eR]; exact cok_rep cx (by omega), by rw [eL]; exact parts_nodup (by omega), lL, fun d G6 s6 hd => ?_⟩
    · rw [List.eq_of_mem_replicate hr]
      exact s35 _ _ hx3
    rw [eR, List.length_replicate, eL] at hd
    have s36 := s35.trans s6
    obtain ⟨U, hU⟩ : ∃ U, List.replicate k x = U := ⟨_, rfl⟩
    have uo : Upok U := hU ▸ cok_rep cx (by omega)
    rw [hU] at q
    rw [hU] at hd
    intro W hW
    have s7 : Same G6 (upd G6 W (.dT [])) := same_up hW
    have f7 : upd G6 W (.dT []) W = some (.dT (kvO (wC U k s) (cnts k un 0))) := upd_same
    generalize upd G6 W (.dT []) = G7 at s7 f7 ⊢
    refine ⟨_, rfl, _, _, rfl, rfl, 1, (k : Int) + 1, rfl, ⟨by omega, by omega, by omega, by omega⟩, ?_⟩
    rw [show ((k : Int) + 1 - 1).toNat = k by omega]
    have hs6 : Share G6 sa s := s36 _ _ hs3
    have lp : (parts (rgZ k)).length ≤ 100 := by
      rw [← eL, List.length_map]
      omega
    refine for_range (lo := 1) (n := k) (fun i σ F => (∃ x6 x7 x8, σ = [some (.int k), some (.int un), some (.ref ua), some (.ref sa), some (.ref d), some (.ref W), x6, x7, x8, none]) ∧ Same G6 F ∧ F W = some (.dT (kvO (wC U k s) (cnts k un i)))) ⟨⟨_, _, _, rfl⟩, s7, f7⟩ ?_ ?_
    · rintro i σ F hi ⟨⟨x6, x7, x8, rfl⟩, s8, h8⟩
      refine ⟨_, rfl, _, rfl, _, _, rfl, rfl, _, _, rfl, rfl, _, rfl, rI0_to (v := V.int ((k : Int) + un + 1 - (1 + (i : Int)))) rfl ?_⟩
      have es := cnts_succ k un i
      have ew : okP k (prC k un i) = (decide (1 ≤ (k : Int) + un + 1 - (1 + (i : Int))) && decide ((k : Int) + un + 1 - (1 + (i : Int)) ≤ k)) := rfl
      have hp : prC k un i = [1 + (i : Int), (k : Int) + un + 1 - (1 + (i : Int))] := rfl
      have hnew := cnts_new k un i
      rw [hp] at es ew hnew
      generalize (k : Int) + un + 1 - (1 + (i : Int)) = wr at es ew hnew ⊢
      have no : okP k [1 + (i : Int), wr] = false → F W = some (.dT (kvO (wC U k s) (cnts k un (i + 1)))) := fun e => by
        rw [es, e, if_neg (by decide), List.append_nil]
        exact h8
      refine ⟨_, rfl, _, _, rfl, rfl, _, rfl, ?_⟩; skip
      refine ite2 (fun e1 => ?_) fun e1 => ?_
      · refine ⟨_, rfl, _, _, rfl, rfl, _, rfl, ?_⟩
        refine ite2 (fun e2 => ?_) fun e2 => ?_
        · refine ⟨_, rfl, _, rfl, _, rfl, d, 1 + (i : Int), fun l => wtN U l k, _, rfl, s8 _ _ hd, lp, fun F1 t1 => ?_⟩
          rw [atL_parts]
          refine ⟨_, rfl, _, rfl, d, wr, fun l => wtN U l k, _, rfl, t1 _ _ (s8 _ _ hd), lp, fun F2 t2 => ?_⟩
          rw [atL_parts]
          have t12 := t1.trans t2
          refine ⟨sa, s, _, _, rfl, (s8.trans t12) _ _ hs6, cs.sh, ?_⟩
          refine ⟨_, rfl, _, rfl, _, rfl, by show 2 ≤ sizeLine; decide, fun tq htq => ?_⟩
          have t3 := same_up (o := .tup [.int (1 + (i : Int)), .int wr]) htq
          have t13 := t12.trans t3
          have lc := cnts_len k un i
          refine ⟨W, _, rfl, DPut.t (k := kOf [1 + (i : Int), wr]) (t13 _ _ h8) (by rw [kOf_V]; exact upd_same) (by rw [kvO_len]; exact small1000 (by omega)), ⟨_, _, _, rfl⟩, sup hW (s8.trans t13), ?_⟩
          have ok : okP k [1 + (i : Int), wr] = true := by
            rw [ew, show decide (1 ≤ wr) = true from e1, show decide (wr ≤ (k : Int)) = true from e2]
            rfl
          rw [upd_same, es, if_pos ok, ← kvO_put hnew]
          rfl
        · exact ⟨⟨_, _, _, rfl⟩, s8, no (by rw [ew, show decide (wr ≤ (k : Int)) = false from Bool.eq_false_iff.mpr e2, Bool.and_false])⟩
      · exact ⟨_, rfl, iteF ⟨⟨_, _, _, rfl⟩, s8, no (by rw [ew, show decide (1 ≤ wr) = false from Bool.eq_false_iff.mpr e1, Bool.false_and])⟩⟩
    rintro σ F ⟨⟨x6, x7, x8, rfl⟩, s8, h8⟩
    have lc := cnts_len k un k
    generalize hcs : cnts k un k = cs' at h8 q lc
    refine ⟨_, rfl, W, _, rfl, h8, fun vl hvl => ?_⟩
    rw [kvO_vals]
    have s9 : Same F (upd F vl (.lst ((cs'.map (wC U k s)).map V.int))) := same_up hvl
    have f9 : upd F vl (.lst ((cs'.map (wC U k s)).map V.int)) vl = some (.lst ((cs'.map (wC U k s)).map V.int)) := upd_same
    generalize upd F vl (.lst ((cs'.map (wC U k s)).map V.int)) = F9 at s9 f9 ⊢
    refine ⟨vl, _, 0, rfl, rfl, SqL.of f9, fun gv hgv => ?_⟩
    have hg : ∀ l ∈ cs', decide (wC U k s l = gv) = decide (wC U k s l = mxZ (cs'.map (wC U k s))) := fun l hl => by
      rcases hgv with ⟨e, _⟩ | ⟨hm, hx⟩
      · rw [List.map_eq_nil_iff.mp e] at hl
        cases hl
      · rw [mxZ_is (fun y hy => ?_) hm hx]
        obtain ⟨l', _, rfl⟩ := List.mem_map.mp hy
        exact (wC_b uo cs.sh l').1
    have h10 := s9 _ _ h8
    have hk := kvO_len (wC U k s) cs'
    generalize hkv : kvO (wC U k s) cs' = kv at h10 hk
    refine ⟨W, _, h10, trivial, fun od => ?_⟩
    have fo : upd F9 W (.frz od (.dT kv)) W = some (.frz od (.dT kv)) := upd_same
    have bk : ∀ G, Same (upd F9 W (.frz od (.dT kv))) G → Same F9 (upd G W (.dT kv)) := fun G s => same_lock h10 s
    generalize upd F9 W (.frz od (.dT kv)) = Gb at fo bk ⊢
    refine ⟨_, rfl, W, od, rfl, .inr ⟨_, fo, fun D hD => ?_⟩⟩
    refine walk_core (walk_keysT (d := W) (o := od) (kvs := kv)) (fun i F' => Same Gb F' ∧ ∃ M : List AT, Lots F' D M ∧ M.map (·.2) = (cs'.take i).filter fun l => decide (wC U k s l = gv)) ⟨same_up hD, [], ⟨upd_same, fun q hq => by cases hq⟩, rfl⟩ (fun _ _ _ g => g.1 _ _ fo) ?_ ?_
    · rintro i y F' F2 hi ⟨t1, M, hM, eM⟩ ⟨rfl, kk, v, b, hkv', rfl, hb⟩
      rw [← hkv] at hkv'
      obtain ⟨l, hl, rfl, rfl⟩ := kvO_at hkv'
      rw [kOf_V] at hb
      have fs := filt_snoc hl (fun l : Z => decide (wC U k s l = gv))
      have fW := t1 _ _ fo
      refine ⟨rfl, _, rfl, _, rfl, W, _, rfl, dget_frz (by rw [hkv]; exact fW) hb (List.mem_of_getElem? hl), _, rfl, rfl, _, rfl, ?_⟩
      rw [intEq]
      refine ite2 (fun e => ?_) fun e => ?_
      · rw [if_pos e] at fs
        have lM : M.length ≤ cs'.length := by
          have := congrArg List.length eM
          rw [List.length_map] at this
          rw [this]
          exact filt_len cs' i _
        have hM2 := lots_app (q := (b, l)) hM hb
        refine ⟨_, rfl, _, hM.1, small1000 (by rw [refs_len]; omega), sup hD t1, M ++ [(b, l)], hM2, ?_⟩
        rw [fs, List.map_append, eM]
        rfl
      · rw [if_neg e, List.append_nil] at fs
        exact ⟨t1, M, hM, by rw [fs]; exact eM⟩
    · rintro F2 ⟨t1, M, hM, eM⟩
      rw [hk, List.take_length] at eM
      have fW := t1 _ _ fo
      refine ⟨fW, ?_⟩
      have hM2 : Lots (upd F2 W (.dT kv)) D M := by
        refine ⟨(upd_ne fun z => ?_).trans hM.1, fun r hr => (upd_ne fun z => ?_).trans (hM.2 r hr)⟩
        · have h1 := hM.1
          rw [z, fW] at h1
          cases h1
        · have h1 := hM.2 r hr
          rw [z, fW] at h1
          cases h1
      have sE := ((s36.trans s8).trans s9).trans (bk F2 t1)
      refine q D M _ (e03.trans (LamX.ExtN.of sE)) (t3.ext sE) hM2 ?_
      rw [eM]
      unfold topC
      exact List.filter_congr hg
end
end Pl

namespace Pl
open L2 PySem PySem.Spec PyProof.Rows RZ
def spTry : Sp := fun vs H Q _ => ∃ (n : Nat), vs = [.int n] ∧ n ≤ 4 ∧ ∀ p L G, Same H G → Lots G p L → L.map (·.2) = votesL n → Q (.ref p) G
def pairN (U : Ups) (s : Rz) (u : Nat) (v : Z) (nd : Int) : Z := [nd, wV U s u v nd]
def spByN (Tb : TbL) : Sp := fun vs H Q _ => ∃ (a d sa : Addr) (v : Z) (u : Int) (U : Ups) (s : Rz), vs = [.ref a, .int u, .ref d, .ref sa] ∧ H a = some (.tup (v.map V.int)) ∧ Vok v ∧ 0 ≤ u ∧ u ≤ 5 ∧ H d = some (.dT (kvO (fun l => wtN U l v.length) (parts (rgZ v.length)))) ∧ Share H sa s ∧ Shok s ∧ Upok U ∧ LamX.Tabs Tb H ∧
  ∀ p L G, LamX.ExtN H G → LamX.Tabs Tb G → Lots G p L → L.map (·.2) = (needL v u.toNat).map (pairN U s u.toNat v) → Q (.ref p) G
abbrev nTr : List Str := ["count", "told", "_", "votes", "vote"]
abbrev nBN : List Str := ["votes", "unruly", "weights", "share", "rows", "total", "_", "most_sure", "told", "need", "writable", "readable", "lot", "weight", "own", "sure"]
abbrev psBN : List Str := ["votes", "unruly", "weights", "share"]
theorem pow44 {n : Nat} (h : n ≤ 4) : 4 ^ n ≤ 256 := by
  have : n = 0 ∨ n = 1 ∨ n = 2 ∨ n = 3 ∨ n = 4 := by omega
  rcases this with rfl | rfl | rfl | rfl | rfl <;> decide
section
variable {P : Program} {K : PySem.W.Frag} {w : World} {base : Heap} {mg : Str → Option Value} {CC CH : Addr} {Tb : TbL}
theorem scTr : FnScope nTr ["count"] (defScope sTry) := ⟨rfl, rfl, rfl, by decide +kernel, rfl, by decide +kernel, by decide +kernel⟩
theorem ok_try {f : Addr} {fd : FuncData} (F : Fun K "_votes_to_try" "_votes_to_try" sTry f fd) (T : Cst mg) : FnOk P w K mg base CX0 1 f fd ["count"] spTry := by
  obtain ⟨t3, h3⟩ := T.votesT
  refine F.ok scTr (fun vs H Q E h => ?_) (fun cdv A outer s0 H vs Q E hr h => ?_)
  · obtain ⟨n, rfl, _⟩ := h
    rfl
  · obtain ⟨n, rfl, n4, q⟩ := h
    refine ⟨_, pss_cons (ps_set (i := 1) scTr.nd rfl (Or.inl rfl) (pe_lst (pa_cons (pe_tup pa_nil) pa_nil)))
      (pss_cons (ps_for PassesOwn.never rfl (pi_range1 (by rfl) T.rng (pa_cons (pv 0) pa_nil)) (pg_name (i := 2) scTr.nd rfl (Or.inl rfl))
        (pss_one (ps_setLc2 (i := 1) (own := [("votes", 3), ("vote", 4)]) (vs1 := [4]) (g := gName 3) (tt := tYes) (g1 := gName 4) (tt1 := tYes) rfl scTr.nd rfl rfl (sw_true rfl rfl rfl (by decide +kernel)) (pi_list (pv 1)) (blkOk_by (own := [("votes", 3), ("vote", 4)]) (N := nTr) (sc := defScope sTry) (by decide +kernel)) (by decide)
          (fun _ _ _ _ _ => pg_name (i := 3) scTr.nd rfl (Or.inl rfl)) (fun _ _ _ _ _ => pts_nil) (fun _ _ _ _ _ => pi_range1 (by rfl) T.rng (pa_cons (pe_op op_add (pe_glob (v := .int 3) (by rfl) h3 ⟨_, rfl⟩) pe_int) pa_nil))
          (fun _ _ _ _ _ => pg_name (i := 4) scTr.nd rfl (Or.inl rfl)) (fun _ _ _ _ _ => pts_nil) (fun _ _ _ _ _ => pe_op (show OpR _ (binaryOp .Add) (rCatA K) from op_catA) (pv 3) (pe_tup (pa_cons (pv 4) pa_nil))))))
      (pss_one (ps_ret (pv 1)))), ?_⟩
    refine ⟨by show 0 ≤ sizeLine; decide, fun t0 ht0 => ⟨by show 1 ≤ sizeLine; decide, fun p0 hp0 => ?_⟩⟩
    have sA : Same H (upd H t0 (.tup [])) := same_up ht0
    have fA : upd H t0 (.tup []) t0 = some (.tup []) := upd_same
    generalize upd H t0 (.tup []) = G0 at sA fA hp0 ⊢
    have sB : Same G0 (upd G0 p0 (.lst [.ref t0])) := same_up hp0
    have hp : upd G0 p0 (.lst [.ref t0]) p0 = some (.lst [.ref t0]) := upd_same
    have f0 := sB _ _ fA
    have s0 := sA.trans sB
    generalize upd G0 p0 (.lst [.ref t0]) = G1 at s0 hp f0 ⊢
    refine ⟨_, rfl, n, rfl, by omega, by omega, ?_⟩
    refine for_it (walk_range (lo := 0) (n := (n : Int).toNat)) (fun i σ G => ∃ d L x2, σ = [some (.int n), some (.ref d), x2, none, none] ∧ Same H G ∧ Lots G d L ∧ L.map (·.2) = votesL i)
      ⟨p0, [(t0, [])], _, rfl, s0, ⟨hp, fun q hq => by
        rw [List.mem_singleton] at hq
        rw [hq]
        exact f0⟩, rfl⟩ (fun _ _ _ _ _ => trivial) ?_ ?_
    · rintro i y σ G G' hi ⟨d, L, x2, rfl, s1, hL, eL⟩ ⟨rfl, rfl⟩
      have hi : i < n := hi
      have lL : L.length ≤ 64 := by
        have e := congrArg List.length eL
        rw [List.length_map, votesL_len] at e
        rw [e]
        have : i = 0 ∨ i = 1 ∨ i = 2 ∨ i = 3 := by omega
        rcases this with rfl | rfl | rfl | rfl <;> decide
      have lq : ∀ q ∈ L, q.2.length ≤ 4 := fun q hq => by
        have m : q.2 ∈ votesL i := eL ▸ List.mem_map.mpr ⟨q, hq, rfl⟩
        rw [(votesL_mem m).1]
        omega
      refine ⟨_, rfl, d, rfl, ⟨_, SqL.of hL.1⟩, fun D hD => ?_⟩
      have l4 : ∀ ls : List Z, (ls.flatMap fun v => (rgZ 4).map fun x => v ++ [x]).length = 4 * ls.length := flat4 fun v => by rw [List.length_map]; rfl
      refine walk_core (walk_list (K := K) (a := d) (xs := refs L)) (fun j F => ∃ M : List AT, Same G' F ∧ Lots F D M ∧ M.map (·.2) = ((L.take j).map (·.2)).flatMap fun v => (rgZ 4).map fun x => v ++ [x]) ⟨[], same_up hD, ⟨upd_same, fun q hq => by cases hq⟩, by rw [List.take_zero]; rfl⟩ (fun _ _ _ h => by
        obtain ⟨_, h, _⟩ := h
        exact SqL.of (h _ _ hL.1)) ?_ ?_
      · rintro j y F F' hj ⟨M, s2, hM, eM⟩ ⟨rfl, hy⟩
        obtain ⟨r, hr', rfl⟩ := refs_get hy
        have rL := List.mem_of_getElem? hr'
        have h5 := lq r rL
        rw [refs_len] at hj
        have lM : M.length = 4 * j := by
          have e := congrArg List.length eM
          rw [List.length_map, l4, List.length_map, List.length_take, Nat.min_eq_left (by omega)] at e
          exact e
        refine ⟨rfl, _, _, rfl, rfl, 4, rfl, by decide, by decide, ?_⟩
        refine walk_core (walk_range (lo := 0) (n := (4 : Int).toNat)) (fun k F2 => ∃ N : List AT, Same G' F2 ∧ Lots F2 D (M ++ N) ∧ N.map (·.2) = ((rgZ 4).take k).map fun x => r.2 ++ [x]) ⟨[], s2, by rw [List.append_nil]; exact hM, rfl⟩ (fun _ _ _ _ => trivial) ?_ ?_
        · rintro k y F2 F3 hk ⟨N, s3, hN, eN⟩ ⟨rfl, rfl⟩
          have hk4 : k < 4 := hk
          have hx : (rgZ 4)[k]? = some (0 + (k : Int)) := rgZ_get hk4
          refine ⟨rfl, _, rfl, _, rfl, by show 1 ≤ sizeLine; decide, fun t1 ht1 => ?_⟩
          have s4 := same_up (o := .tup [.int (0 + (k : Int))]) ht1
          have f4 : upd F3 t1 (.tup [.int (0 + (k : Int))]) t1 = some (.tup [.int (0 + (k : Int))]) := upd_same
          refine cat_any (s4 _ _ (s3 _ _ (hL.2 r rL))) f4 (by rw [List.length_map]; show r.2.length + 1 ≤ 1000; omega) fun p F4 s5 hp2 => ?_
          have s45 := s4.trans s5
          have hA : Lots (upd F4 D (.lst (refs (M ++ N) ++ [.ref p]))) D ((M ++ N) ++ [(p, r.2 ++ [0 + (k : Int)])]) := lots_app (q := (p, r.2 ++ [0 + (k : Int)])) (hN.same s45) (by rw [List.map_append]; exact hp2)
          have lN : N.length = k := by
            have e := congrArg List.length eN
            rw [List.length_map, List.length_map, List.length_take, Nat.min_eq_left (by rw [rgZ_len]; show k ≤ 4; omega)] at e
            exact e
          refine ⟨_, s45 _ _ hN.1, small1000 (by rw [refs_len, List.length_append, lM, lN]; omega), N ++ [(p, r.2 ++ [0 + (k : Int)])], sup hD (s3.trans s45), by rw [← List.append_assoc]; exact hA, ?_⟩
          rw [List.map_append, eN, take_next1 hx, List.map_append]
          rfl
        · rintro F2 ⟨N, s3, hN, eN⟩
          refine ⟨M ++ N, s3, hN, ?_⟩
          rw [List.map_append, eM, eN, take_next1 hr', List.map_append, List.flatMap_append]
          rfl
      · rintro F ⟨M, s2, hM, eM⟩
        rw [refs_len, List.take_length, eL] at eM
        exact ⟨D, M, _, rfl, s1.trans s2, hM, eM⟩
    · rintro σ G ⟨d, L, x2, rfl, s1, hL, eL⟩
      exact ⟨_, rfl, q d L G s1 hL eL⟩
end
end Pl

namespace Pl
open L2 PySem PySem.Spec PyProof.Rows RZ
def rowZ (U : Ups) (v : Z) (u : Nat) (l : Z) : Z := [wtN U l v.length, vsum v l, sureP v u l]
theorem wr_parts (U : Ups) (v : Z) (nd : Int) : (((parts (rgZ v.length)).filter (writeP v nd)).map fun l => wtN U l v.length).sum = wrS U v nd := sum_parts _ _ _
theorem re_parts (U : Ups) (v : Z) (nd : Int) (u : Nat) : (((parts (rgZ v.length)).filter (enoughP v nd u)).map fun l => wtN U l v.length).sum = reS U v nd u := sum_parts _ _ _
theorem pick_eq (L : List AT) (P : Z → Bool) (f : Z → Int) : ((L.filter fun q => P q.2).map fun q => f q.2) = ((L.map (·.2)).filter P).map f := by
  rw [List.filter_map, List.map_map]
  rfl
theorem pick_row {U : Ups} {v : Z} {u : Nat} {M : List AT} {ls : List Z} (e : M.map (·.2) = ls.map (rowZ U v u)) (P : Z → Bool) : ((M.filter fun q => P q.2).map fun q => q.2.getD 0 0) = (ls.filter fun l => P (rowZ U v u l)).map fun l => wtN U l v.length := by
  rw [pick_eq M P fun l => l.getD 0 0, e, List.filter_map, List.map_map]
  rfl
theorem need_len (v : Z) (u : Nat) : (needL v u).length = (fullS v u).toNat := by
  unfold needL
  rw [List.length_map, List.length_range]; skip
section
variable {P : Program} {K : PySem.W.Frag} {w : World} {base : Heap} {mg : Str → Option Value} {CC CH : Addr} {Tb : TbL}
theorem scBN : FnScope nBN psBN (defScope sByNeed) := ⟨rfl, rfl, rfl, by decide +kernel, rfl, by decide +kernel, by decide +kernel⟩
theorem ok_bn {f : Addr} {fd : FuncData} (F : Fun K "_worths_by_need" "_worths_by_need" sByNeed f fd) (T : Cst mg) (D1 : Df P w K mg base 1 "votes_of" ["votes", "lot"] spVof) (D2 : Df P w K mg base 4 "_sure_votes" psVUL (spSure Tb)) (D3 : Df P w K mg base 1 "_worth" ["share", "readable", "writable"] spWorth) : FnOk P w K mg base CX0 5 f fd psBN (spByN Tb) := by
  obtain ⟨e1, fd1, G1, m1, k1, b1⟩ := D1.ex
  obtain ⟨e2, fd2, G2, m2, k2, b2⟩ := D2.ex
  obtain ⟨e3, fd3, G3, m3, k3, b3⟩ := D3.ex
  refine F.ok scBN (fun vs H Q E h => ?_) (fun cdv A outer s0 H vs Q E hr h => ?_)
  · obtain ⟨a, d, sa, v, u, U, s, rfl, _⟩ := h
    rfl
  · obtain ⟨a, d, sa, v, u, U, s, rfl, ha, vk, u0, u5, hd, hsh, sok, uo, hT, q⟩ := h
    have hu : (A.deeper (envOfC "_worths_by_need" (defScope sByNeed) s0.heap.objs.size f cdv)).units + 1 < cLine := by
      have := hr.un
      omega
    refine ⟨_, pss_cons (ps_lock (ps_setLc (i := 4) (own := [("lot", 12)]) (g := gName 12) (tt := tYes) rfl scBN.nd rfl rfl (sw_true rfl rfl rfl (by decide +kernel)) (pi_keys (pv 2)) (blkOk_by (own := [("lot", 12)]) (N := nBN) (sc := defScope sByNeed) (by decide +kernel))
          (fun _ _ _ _ _ => pg_name (i := 12) scBN.nd rfl (Or.inl rfl)) (fun _ _ _ _ _ => pts_nil) (fun _ _ _ _ _ => pe_tup (pa_cons (pe_dget hu (pv 2) (pv 12) (fun _ _ => rfl)) (pa_cons (pe_call G1 (hr.mono (by decide)) (by rfl) m1 k1 b1 .nil pass0 (pa_cons (pv 0) (pa_cons (pv 12) pa_nil))) (pa_cons (pe_call G2 (hr.mono (by decide)) (by rfl) m2 k2 b2 .nil pass0 (pa_cons (pv 0) (pa_cons (pv 1) (pa_cons (pv 12) pa_nil)))) pa_nil))))))
      (pss_cons (ps_set (i := 5) scBN.nd rfl (Or.inr rfl) (pe_callB (cr_sumT rfl) (by rfl) T.sum_ (by decide +kernel) (pa_cons (pv 0) pa_nil)))
      (pss_cons (ps_asg (pe_ix (show IxR _ (rIxL K) from ix_list) (pv 4) (pe_un un_neg pe_int) (fun _ _ => rfl)) (pg_tup rfl (pgs_cons (pg_name (i := 6) scBN.nd rfl (Or.inl rfl)) (pgs_cons (pg_name (i := 6) scBN.nd rfl (Or.inl rfl)) (pgs_cons (pg_name (i := 7) scBN.nd rfl (Or.inl rfl)) pgs_nil)))))
      (pss_cons (ps_set (i := 8) scBN.nd rfl (Or.inl rfl) (pe_lst pa_nil))
      (pss_cons (ps_for PassesOwn.never rfl (pi_range2 (by rfl) T.rng (pa_cons (pe_op op_add (pe_op op_sub (pv 5) (pv 7)) pe_int) (pa_cons (pe_op op_add (pv 5) pe_int) pa_nil))) (pg_name (i := 9) scBN.nd rfl (Or.inr rfl))
        (pss_cons (ps_set (i := 10) scBN.nd rfl (Or.inl rfl) (pe_callB (cr_sum rfl) (by rfl) T.sum_ (by decide +kernel) (pa_cons (pe_lc (own := [("weight", 13), ("own", 14), ("_", 6)]) (g := gTup K 3 (gCons (gName 13) (gCons (gName 14) (gCons (gName 6) gNil)))) (tt := _) rfl scBN.nd (pi_list (pv 4)) (blkOk_by (own := [("weight", 13), ("own", 14), ("_", 6)]) (N := nBN) (sc := defScope sByNeed) (by decide +kernel))
          (fun _ _ _ _ _ => pg_tup rfl (pgs_cons (pg_name (i := 13) scBN.nd rfl (Or.inl rfl)) (pgs_cons (pg_name (i := 14) scBN.nd rfl (Or.inl rfl)) (pgs_cons (pg_name (i := 6) scBN.nd rfl (Or.inl rfl)) pgs_nil)))) (fun _ _ _ _ _ => pts_one (pt_cmpR op_ge (pv 14) (pv 9) (nomark _))) (fun _ _ _ _ _ => pv 13)) pa_nil)))
        (pss_cons (ps_set (i := 11) scBN.nd rfl (Or.inl rfl) (pe_callB (cr_sum rfl) (by rfl) T.sum_ (by decide +kernel) (pa_cons (pe_lc (own := [("weight", 13), ("_", 6), ("sure", 15)]) (g := gTup K 3 (gCons (gName 13) (gCons (gName 6) (gCons (gName 15) gNil)))) (tt := _) rfl scBN.nd (pi_list (pv 4)) (blkOk_by (own := [("weight", 13), ("_", 6), ("sure", 15)]) (N := nBN) (sc := defScope sByNeed) (by decide +kernel))
          (fun _ _ _ _ _ => pg_tup rfl (pgs_cons (pg_name (i := 13) scBN.nd rfl (Or.inl rfl)) (pgs_cons (pg_name (i := 6) scBN.nd rfl (Or.inl rfl)) (pgs_cons (pg_name (i := 15) scBN.nd rfl (Or.inl rfl)) pgs_nil)))) (fun _ _ _ _ _ => pts_one (pt_cmpR op_gt (pv 15) (pe_op op_sub (pv 5) (pv 9)) (nomark _))) (fun _ _ _ _ _ => pv 13)) pa_nil)))
        (pss_one (ps_expr (pe_bm PySem.F.plainAttrs_list PySem.F.slot_list_append PySem.F.type_list_append mt_append (pv 8) (pa_cons (pe_tup (pa_cons (pv 9) (pa_cons (pe_call G3 (hr.mono (by decide)) (by rfl) m3 k3 b3 .nil pass0 (pa_cons (pv 3) (pa_cons (pv 11) (pa_cons (pv 10) pa_nil)))) pa_nil))) pa_nil)))))))
      (pss_one (ps_ret (pv 8))))))), ?_⟩
    have lv := vk.len
    have lp : (parts (rgZ v.length)).length ≤ 32 := by
      rw [(parts_perm _).length_eq, subs_len, rgZ_len]
      exact pow5 lv
    have fL : ∀ l ∈ parts (rgZ v.length), Lot v.length l := fun l hl => (rgZ_lot _).sub (mem_parts.mp hl)
    refine ⟨d, _, hd, trivial, fun od => ?_⟩
    have hTl := tabs_dict (f := .frz od (.dT (kvO (fun l => wtN U l v.length) (parts (rgZ v.length))))) hT hd
    have hal : upd H d (.frz od (.dT (kvO (fun l => wtN U l v.length) (parts (rgZ v.length))))) a = some (.tup (v.map V.int)) := (upd_ne (dT_ne hd ha)).trans ha
    have fo : upd H d (.frz od (.dT (kvO (fun l => wtN U l v.length) (parts (rgZ v.length))))) d = some (.frz od (.dT (kvO (fun l => wtN U l v.length) (parts (rgZ v.length))))) := upd_same
    have bk : ∀ G, LamX.ExtN (upd H d (.frz od (.dT (kvO (fun l => wtN U l v.length) (parts (rgZ v.length)))))) G → LamX.ExtN H (upd G d (.dT (kvO (fun l => wtN U l v.length) (parts (rgZ v.length))))) := fun G s => ext_lock hd s
    have hk := kvO_len (fun l => wtN U l v.length) (parts (rgZ v.length))
    generalize upd H d (.frz od (.dT (kvO (fun l => wtN U l v.length) (parts (rgZ v.length))))) = Gb at fo bk hTl hal ⊢
    refine ⟨_, rfl, d, od, rfl, .inr ⟨_, fo, fun D hD => ?_⟩⟩
    have nf : ∀ {G : Hp}, LamX.ExtN Gb G → G d = some (.frz od (.dT (kvO (fun l => wtN U l v.length) (parts (rgZ v.length))))) := fun e => e _ _ fo fun _ z => by cases z
    refine walk_core (walk_keysT (d := d) (o := od) (kvs := kvO (fun l => wtN U l v.length) (parts (rgZ v.length)))) (fun i F' => LamX.ExtN Gb F' ∧ LamX.Tabs Tb F' ∧ ∃ M : List AT, Lots F' D M ∧ M.map (·.2) = ((parts (rgZ v.length)).take i).map (rowZ U v u.toNat)) ⟨LamX.ExtN.of (same_up hD), hTl.ext (same_up hD), [], ⟨upd_same, fun q hq => by cases hq⟩, by rw [List.take_zero]; rfl⟩ (fun _ _ _ g => nf g.1) ?_ ?_
    · rintro i y F' F2 hi ⟨t1, T1, M, hM, eM⟩ ⟨rfl, kk, z, b, hkv', rfl, hb⟩
      obtain ⟨l, hl, rfl, rfl⟩ := kvO_at hkv'
      rw [kOf_V] at hb
      have lm := List.mem_of_getElem? hl
      have fl := fL l lm
      have l5 := (fl.mono (m := 5) (by omega)).len
      refine ⟨rfl, _, rfl, _, rfl, d, _, rfl, dget_frz (nf t1) hb lm, ?_⟩
      refine ⟨_, rfl, _, rfl, a, b, v, l, rfl, ext_tp t1 hal, .inr hb, fl.2, by omega, fun F3 s3 => ?_⟩
      refine ⟨_, rfl, _, rfl, _, rfl, a, b, v, l, u, rfl, ext_tp (t1.trans (LamX.ExtN.of s3)) hal, s3 _ _ hb, ⟨vk, u0, u5, fl⟩, T1.ext s3, fun F4 e4 T4 => ?_⟩
      have e34 := (LamX.ExtN.of s3).trans e4
      refine ⟨by show 3 ≤ sizeLine; decide, fun p hp => ?_⟩
      have s5 := same_up (o := .tup [.int (wtN U l v.length), .int (vsum v l), .int (sureP v u.toNat l)]) hp
      have f5 : upd F4 p (.tup [.int (wtN U l v.length), .int (vsum v l), .int (sureP v u.toNat l)]) p = some (.tup ((rowZ U v u.toNat l).map V.int)) := upd_same
      have e35 := e34.trans (LamX.ExtN.of s5)
      have T5 := T4.ext s5
      have hM5 := hM.ext e35
      have hM6 := lots_app (q := (p, rowZ U v u.toNat l)) hM5 f5
      have lM : M.length ≤ (parts (rgZ v.length)).length := by
        have := congrArg List.length eM
        rw [List.length_map, List.length_map, List.length_take] at this
        omega
      refine ⟨_, hM5.1, small1000 (by rw [refs_len]; omega), ext_upd (t1.trans e35) fun b o h _ => ne_of_none h hD, tabs_upd T5 hM5.1, M ++ [(p, rowZ U v u.toNat l)], hM6, ?_⟩
      rw [take_next1 hl, List.map_append, List.map_append, eM]
      rfl
    rintro F2 ⟨t1, T1, M, hM, eM⟩
    rw [hk, List.take_length] at eM
    have fW := nf t1
    refine ⟨fW, ?_⟩
    have e2 := bk F2 t1
    have T2 := tabs_frz (f := .dT (kvO (fun l => wtN U l v.length) (parts (rgZ v.length)))) T1 fW
    have hM2 : Lots (upd F2 d (.dT (kvO (fun l => wtN U l v.length) (parts (rgZ v.length))))) D M := by
      refine ⟨(upd_ne fun z => ?_).trans hM.1, fun r hr => (upd_ne fun z => ?_).trans (hM.2 r hr)⟩
      · have h1 := hM.1
        rw [z, fW] at h1
        cases h1
      · have h1 := hM.2 r hr
        rw [z, fW] at h1
        cases h1
    generalize upd F2 d (.dT (kvO (fun l => wtN U l v.length) (parts (rgZ v.length)))) = G2 at e2 T2 hM2 ⊢
    have ha2 := ext_tp e2 ha
    have hs2 : Share G2 sa s := ext_tp e2 hsh
    refine ⟨_, rfl, a, v, rfl, SqT.of ha2, ?_⟩
    -- the last row
    obtain ⟨ys, ey⟩ := List.getLast?_eq_some_iff.mp (parts_last (rgZ v.length))
    obtain ⟨M0, r0, eM0, er0⟩ : ∃ M0 r0, M = M0 ++ [r0] ∧ r0.2 = rowZ U v u.toNat (rgZ v.length) := by
      rw [ey, List.map_append] at eM
      obtain ⟨M0, M1, rfl, e1, e2⟩ := List.map_eq_append_iff.mp eM
      obtain ⟨r0, rfl, e3⟩ := List.map_eq_singleton_iff.mp e2
      exact ⟨M0, r0, rfl, e3⟩
    have hr0 := hM2.2 r0 (by rw [eM0]; exact List.mem_append_right _ List.mem_cons_self)
    rw [er0] at hr0
    refine ⟨_, rfl, _, rfl, D, _, _, .ref r0.1, rfl, rfl, SqL.of hM2.1, ?_, ?_⟩
    · rw [eM0, refs_app]
      exact atI_last _ _
    refine ⟨r0.1, _, rfl, SqT.of hr0, rfl, _, _, rfl, _, _, rfl, _, _, rfl, rfl, ?_⟩
    refine ⟨by show 0 ≤ sizeLine; decide, fun td htd => ?_⟩
    have s3 : Same G2 (upd G2 td (.lst [])) := same_up htd
    have f3 : Lots (upd G2 td (.lst [])) td [] := ⟨upd_same, fun q hq => by cases hq⟩
    generalize upd G2 td (.lst []) = G3' at s3 f3 ⊢
    obtain ⟨b0, b1_⟩ := fullS_b vk.nn u.toNat
    have sm := vk.sum9
    have fe : sureP v u.toNat (rgZ v.length) = fullS v u.toNat := rfl
    rw [fe]
    refine ⟨_, rfl, _, rfl, _, _, rfl, rfl, _, _, rfl, rfl, _, rfl, _, _, rfl, rfl, v.sum - fullS v u.toNat + 1, v.sum + 1, rfl, ⟨by omega, by omega, by omega, by omega⟩, ?_⟩
    rw [show (v.sum + 1 - (v.sum - fullS v u.toNat + 1)).toNat = (fullS v u.toNat).toNat by omega]
    have lM : M.length ≤ 32 := by
      have := congrArg List.length eM
      rw [List.length_map, List.length_map] at this
      omega
    have rowM : ∀ r ∈ M, ∃ l ∈ parts (rgZ v.length), r.2 = rowZ U v u.toNat l := fun r hr => by
      have : r.2 ∈ (parts (rgZ v.length)).map (rowZ U v u.toNat) := eM ▸ List.mem_map.mpr ⟨r, hr, rfl⟩
      obtain ⟨l, hl, e⟩ := List.mem_map.mp this
      exact ⟨l, hl, e.symm⟩
    refine for_range (lo := v.sum - fullS v u.toNat + 1) (n := (fullS v u.toNat).toNat) (fun i σ F => (∃ x6 x9 x10 x11, σ = [some (.ref a), some (.int u), some (.ref d), some (.ref sa), some (.ref D), some (.int v.sum), x6, some (.int (fullS v u.toNat)), some (.ref td), x9, x10, x11, none, none, none, none]) ∧ Same G2 F ∧ ∃ N : List AT, Lots F td N ∧ N.map (·.2) = ((needL v u.toNat).take i).map (pairN U s u.toNat v)) ⟨⟨_, _, _, _, rfl⟩, s3, [], f3, by rw [List.take_zero]; rfl⟩ ?_ ?_
    · rintro i σ F hi ⟨⟨x6, x9, x10, x11, rfl⟩, s4, N, hN, eN⟩
      have hnd : (needL v u.toNat)[i]? = some (v.sum - fullS v u.toNat + 1 + (i : Int)) := by
        unfold needL
        rw [List.getElem?_map, List.getElem?_range hi]
        rfl
      generalize v.sum - fullS v u.toNat + 1 + (i : Int) = nd at hnd ⊢
      have hMF := hM2.same s4
      refine ⟨_, rfl, D, rfl, ⟨_, SqL.of hMF.1⟩, fun D2 hD2 => ?_⟩
      refine walk_core (walk_list (K := K) (a := D) (xs := refs M)) (fun j F2 => Same F F2 ∧ F2 D2 = some (.lst ((((M.take j).filter fun r => decide (r.2.getD 1 0 ≥ nd)).map fun r => r.2.getD 0 0).map V.int))) ⟨same_up hD2, upd_same⟩ (fun _ _ _ g => SqL.of (g.1 _ _ hMF.1)) ?_ ?_
      · rintro j y F2 F3 hj ⟨s5, h5⟩ ⟨rfl, hy⟩
        obtain ⟨r, hr', rfl⟩ := refs_get hy
        have rM := List.mem_of_getElem? hr'
        obtain ⟨l, hl, el⟩ := rowM r rM
        have hr3 := s5 _ _ (hMF.2 r rM)
        rw [el] at hr3
        have fs := filt_snoc hr' (fun r : AT => decide (r.2.getD 1 0 ≥ nd))
        rw [el, show decide ((rowZ U v u.toNat l).getD 1 0 ≥ nd) = decide (nd ≤ vsum v l) from rfl] at fs
        refine ⟨r.1, _, rfl, SqT.of hr3, rfl, _, _, rfl, _, _, rfl, _, _, rfl, rfl, rfl, ?_⟩
        refine ⟨_, rfl, _, rfl, rI0_to rfl ⟨_, rfl, ?_⟩⟩
        refine ite2 (fun e => ?_) fun e => ?_
        · rw [if_pos e] at fs
          refine ⟨_, rfl, _, h5, small1000 (by rw [List.length_map, List.length_map]; exact Nat.le_trans (filt_len M j _) (by omega)), sup hD2 s5, ?_⟩
          rw [upd_same, fs, List.map_append, List.map_append, List.map_singleton, el]
          rfl
        · rw [if_neg e, List.append_nil] at fs
          exact ⟨s5, by rw [fs]; exact h5⟩
      rintro F2 ⟨s5, h5⟩
      rw [refs_len, List.take_length, pick_row eM fun l => decide (l.getD 1 0 ≥ nd)] at h5
      refine ⟨D2, _, rfl, SqL.of h5, ?_⟩
      rw [show (((parts (rgZ v.length)).filter fun l => decide ((rowZ U v u.toNat l).getD 1 0 ≥ nd)).map fun l => wtN U l v.length).sum = wrS U v nd from wr_parts U v nd]
      have hMF2 := hMF.same s5
      refine ⟨_, rfl, D, rfl, ⟨_, SqL.of hMF2.1⟩, fun D3 hD3 => ?_⟩
      refine walk_core (walk_list (K := K) (a := D) (xs := refs M)) (fun j F3 => Same F2 F3 ∧ F3 D3 = some (.lst ((((M.take j).filter fun r => decide (r.2.getD 2 0 > v.sum - nd)).map fun r => r.2.getD 0 0).map V.int))) ⟨same_up hD3, upd_same⟩ (fun _ _ _ g => SqL.of (g.1 _ _ hMF2.1)) ?_ ?_
      · rintro j y F3 F4 hj ⟨s6, h6⟩ ⟨rfl, hy⟩
        obtain ⟨r, hr', rfl⟩ := refs_get hy
        have rM := List.mem_of_getElem? hr'
        obtain ⟨l, hl, el⟩ := rowM r rM
        have hr3 := s6 _ _ (hMF2.2 r rM)
        rw [el] at hr3
        have fs := filt_snoc hr' (fun r : AT => decide (r.2.getD 2 0 > v.sum - nd))
        rw [el, show decide ((rowZ U v u.toNat l).getD 2 0 > v.sum - nd) = decide (v.sum - nd < sureP v u.toNat l) from rfl] at fs
        refine ⟨r.1, _, rfl, SqT.of hr3, rfl, _, _, rfl, _, _, rfl, _, _, rfl, rfl, rfl, ?_⟩
        refine ⟨_, rfl, _, rfl, _, rfl, rI0_to rfl (rI0_to rfl ⟨_, rfl, ?_⟩)⟩
        refine ite2 (fun e => ?_) fun e => ?_
        · rw [if_pos e] at fs
          refine ⟨_, rfl, _, h6, small1000 (by rw [List.length_map, List.length_map]; exact Nat.le_trans (filt_len M j _) (by omega)), sup hD3 s6, ?_⟩
          rw [upd_same, fs, List.map_append, List.map_append, List.map_singleton, el]
          rfl
        · rw [if_neg e, List.append_nil] at fs
          exact ⟨s6, by rw [fs]; exact h6⟩
      rintro F3 ⟨s6, h6⟩
      rw [refs_len, List.take_length, pick_row eM fun l => decide (l.getD 2 0 > v.sum - nd)] at h6
      refine ⟨D3, _, rfl, SqL.of h6, ?_⟩
      rw [show (((parts (rgZ v.length)).filter fun l => decide ((rowZ U v u.toNat l).getD 2 0 > v.sum - nd)).map fun l => wtN U l v.length).sum = reS U v nd u.toNat from re_parts U v nd u.toNat]
      have s56 := s5.trans s6
      have hN3 := hN.same s56
      refine ⟨_, rfl, .inl ⟨rfl, _, SqL.of hN3.1⟩, _, rfl, _, rfl, _, rfl, _, rfl, sa, s, _, _, rfl, (s4.trans s56) _ _ hs2, sok, ?_⟩
      refine ⟨by show 2 ≤ sizeLine; decide, fun pq hpq => ?_⟩
      have s7 := same_up (o := .tup [.int nd, .int (worZ s (reS U v nd u.toNat) (wrS U v nd))]) hpq
      have f7 : upd F3 pq (.tup [.int nd, .int (worZ s (reS U v nd u.toNat) (wrS U v nd))]) pq = some (.tup ((pairN U s u.toNat v nd).map V.int)) := upd_same
      have hN7 := hN3.same s7
      have lN : N.length ≤ 45 := by
        have e := congrArg List.length eN
        rw [List.length_map, List.length_map, List.length_take, need_len] at e
        omega
      refine ⟨td, _, _, rfl, rfl, hN7.1, small1000 (by rw [refs_len]; omega), ⟨_, _, _, _, rfl⟩, sup htd ((s4.trans s56).trans s7), N ++ [(pq, pairN U s u.toNat v nd)], lots_app (q := (pq, pairN U s u.toNat v nd)) hN7 f7, ?_⟩
      rw [take_next1 hnd, List.map_append, List.map_append, eN]
      rfl
    · rintro σ F ⟨⟨x6, x9, x10, x11, rfl⟩, s4, N, hN, eN⟩
      rw [← need_len, List.take_length] at eN
      exact ⟨_, rfl, q td N F (e2.trans (LamX.ExtN.of s4)) (T2.ext s4) hN eN⟩
end
end Pl

namespace Pl
open L2 PySem PySem.Spec PyProof.Rows RZ
def okW : Option (List OL) → Bool
  | none => false
  | some os => os.all chaT && (decide (1 ≤ os.length) && decide (os.length ≤ 4))
/-- what best_votes tells -/
def BvIs (H : Hp) (v : V) (b : Int) : Option Cd → Prop
  | none => v = .non
  | some c => ∃ p a q, v = .ref p ∧ H p = some (.tup [.ref a, .int c.2.1, .ref q]) ∧ H a = some (.tup (c.1.map V.int)) ∧ H q = some (.tup [.int (lowZ c.2.2 b).1, .int (lowZ c.2.2 b).2])
/-- the best so far -/
def BSt (H : Hp) (v : V) : Option Cd → Prop
  | none => v = .non
  | some c => ∃ p a, v = .ref p ∧ H p = some (.tup [.ref a, .int c.2.1]) ∧ H a = some (.tup (c.1.map V.int))
theorem BSt.ext {H G : Hp} {v : V} : ∀ {c : Option Cd}, LamX.ExtN H G → BSt H v c → BSt G v c
  | none, _, h => h
  | some c, e, ⟨p, a, h1, h2, h3⟩ => ⟨p, a, h1, ext_tp e h2, ext_tp e h3⟩
def spBestV (K : PySem.W.Frag) (Tb : TbL) (CC CH : Addr) : Sp := fun vs H Q E => ∃ (x u sh : V), vs = [x, u, sh] ∧ ∃ o, Wz K H x o ∧ (∀ os, o = some os → os.length ≤ 100) ∧ (okW o = false → Rais CH x H E) ∧ (∀ os, o = some os → okW o = true → CkU CC os.length u H E (CkH K CH sh H E (∃ (ua : Addr) (R : List AU) (un : Int) (sa : Addr) (s : Rz), x = .ref ua ∧ u = .int un ∧ sh = .ref sa ∧ UpsB H ua R ∧ R.length = os.length ∧ Upok (R.map (·.2)) ∧ 0 ≤ un ∧ un ≤ 5 ∧ Share H sa s ∧ Cok s ∧ LamX.Tabs Tb H ∧
  ∀ v G, LamX.ExtN H G → LamX.Tabs Tb G → BvIs G v (s.2 * botN (R.map (·.2)) R.length) (bestU (R.map (·.2)) s un.toNat R.length) → Q v G)))
abbrev psBV : List Str := ["ups", "unruly", "share"]
abbrev nBV : List Str := ["ups", "unruly", "share", "weights", "best", "greatest", "votes", "need", "worth"]
theorem cand_at {U : Ups} {s : Rz} {u : Nat} {v : Z} {j : Nat} {nd : Int} (h : (needL v u)[j]? = some nd) : (candL U s u v)[j]? = some (v, nd, wV U s u v nd) := by
  unfold candL
  rw [List.getElem?_map, h]
  rfl
theorem cand_len (U : Ups) (s : Rz) (u : Nat) (v : Z) : (candL U s u v).length = (needL v u).length := by
  unfold candL
  rw [List.length_map]
theorem gr_snoc (cs : List Cd) (c : Cd) : bestL (cs ++ [c]) = if c.2.2 > gr (bestL cs) then some c else bestL cs := bestL_snoc cs c
section
variable {P : Program} {K : PySem.W.Frag} {w : World} {base : Heap} {mg : Str → Option Value} {CC CH : Addr} {Tb : TbL}
theorem scBV : FnScope nBV psBV (defScope sBestV) := ⟨rfl, rfl, rfl, by decide +kernel, rfl, by decide +kernel, by decide +kernel⟩
theorem ok_bv {f : Addr} {fd : FuncData} (F : Fun K "best_votes" "best_votes" sBestV f fd) (T : Cst mg) (M : Mak P w K mg base "NoChances" CH) (D3 : DfX P w K mg base 3 "check_unruly" ["unruly", "count"] (spCkU CC)) (D4 : DfX P w K mg base 5 "_check_chance" ["value"] (spCkH K CH)) (D5 : Df P w K mg base 4 "_lots_of" ["count"] (spLotsOf Tb))
    (D6 : Df P w K mg base 1 "_weights" ["lots", "ups"] spWts) (D7 : Df P w K mg base 5 "_are_chances" ["value"] (spAre K)) (D8 : Df P w K mg base 1 "_votes_to_try" ["count"] spTry) (D9 : Df P w K mg base 5 "_worths_by_need" psBN (spByN Tb)) (D0 : Df P w K mg base 1 "lowered" ["top", "bottom"] spLow) : FnOk P w K mg base (L2.CX P w) 6 f fd psBV (spBestV K Tb CC CH) := by
  obtain ⟨t5, h5⟩ := T.copiesT
  obtain ⟨e0, fd0, G0, m0, k0, b0⟩ := D0.ex
  obtain ⟨e3, fd3, G3, m3, k3, b3⟩ := D3.ex
  obtain ⟨e4, fd4, G4, m4, k4, b4⟩ := D4.ex
  obtain ⟨e5, fd5, G5, m5, k5, b5⟩ := D5.ex
  obtain ⟨e6, fd6, G6, m6, k6, b6⟩ := D6.ex
  obtain ⟨e7, fd7, G7, m7, k7, b7⟩ := D7.ex
  obtain ⟨e8, fd8, G8, m8, k8, b8⟩ := D8.ex
  obtain ⟨e9, fd9, G9, m9, k9, b9⟩ := D9.ex
  obtain ⟨fI, fdI, TE, GI, bI⟩ := M.ex
  refine F.okX scBV (fun vs H Q E h => ?_) (fun cdv A outer s0 H vs Q E hr h => ?_)
  · obtain ⟨x, u, sh, rfl, _⟩ := h
    rfl
  · obtain ⟨x, u, sh, rfl, o, wz, l100, badO, goodO⟩ := h
    have hu : (A.deeper (envOfC "best_votes" (defScope sBestV) s0.heap.objs.size f cdv)).units + 1 < cLine := by
      have := hr.un
      omega
    refine ⟨_, pss_cons (ps_if (PW.pt (pw_or (pt_not (pt_val (pe_call G7 (hr.mono (by decide)) (by rfl) m7 k7 b7 .nil pass0 (pa_cons (pv 0) pa_nil)))) (pw_or1 (pt_not (pt_chain op_le op_le pe_int (pe_callB (show CallR _ (.builtin "len") (rLenQ K) from call_len_seq) (by rfl) T.len PySem.boot_len (pa_cons (pv 0) pa_nil)) (pe_glob (v := .int 4) (by rfl) h5 ⟨_, rfl⟩))))))
        (pss_one (ps_raise rfl (takes_of rfl rfl rfl rfl) (pmk_oex TE.ox TE.iC TE.tI GI (hr.mono (by decide)) bI .nil pass0 (by rfl) TE.gC (pa_cons (pv 0) pa_nil)))) pss_nil)
      (pss_cons (ps_expr (pe_call (E := E) G3 (hr.mono (by decide)) (by rfl) m3 k3 b3 .nil (passes_call (takes_of rfl rfl rfl rfl) fun _ _ _ _ h => h) (pa_cons (pv 1) (pa_cons (pe_callB (show CallR _ (.builtin "len") (rLenQ K) from call_len_seq) (by rfl) T.len PySem.boot_len (pa_cons (pv 0) pa_nil)) pa_nil))))
      (pss_cons (ps_expr (pe_call (E := E) G4 (hr.mono (by decide)) (by rfl) m4 k4 b4 .nil (passes_call (takes_of rfl rfl rfl rfl) fun _ _ _ _ h => h) (pa_cons (pv 2) pa_nil)))
      (pss_cons (ps_set (i := 3) scBV.nd rfl (Or.inl rfl) (pe_call G6 (hr.mono (by decide)) (by rfl) m6 k6 b6 .nil pass0 (pa_cons (pe_call G5 (hr.mono (by decide)) (by rfl) m5 k5 b5 .nil pass0 (pa_cons (pe_callB (show CallR _ (.builtin "len") (rLenQ K) from call_len_seq) (by rfl) T.len PySem.boot_len (pa_cons (pv 0) pa_nil)) pa_nil)) (pa_cons (pv 0) pa_nil))))
      (pss_cons (ps_set (i := 4) scBV.nd rfl (Or.inl rfl) pe_non)
      (pss_cons (ps_set (i := 5) scBV.nd rfl (Or.inl rfl) (pe_un un_neg pe_int))
      (pss_cons (ps_for (passes_of rfl) rfl (pi_list (pe_call G8 (hr.mono (by decide)) (by rfl) m8 k8 b8 .nil pass0 (pa_cons (pe_callB (show CallR _ (.builtin "len") (rLenQ K) from call_len_seq) (by rfl) T.len PySem.boot_len (pa_cons (pv 0) pa_nil)) pa_nil))) (pg_name (i := 6) scBV.nd rfl (Or.inl rfl))
        (pss_one (ps_for (passes_of rfl) rfl (pi_list (pe_call G9 (hr.mono (by decide)) (by rfl) m9 k9 b9 .nil pass0 (pa_cons (pv 6) (pa_cons (pv 1) (pa_cons (pv 3) (pa_cons (pv 2) pa_nil)))))) (pg_tup rfl (pgs_cons (pg_name (i := 7) scBV.nd rfl (Or.inl rfl)) (pgs_cons (pg_name (i := 8) scBV.nd rfl (Or.inl rfl)) pgs_nil)))
          (pss_one (ps_if (pt_cmpR op_gt (pv 8) (pv 5) (nomark _)) (pss_one (ps_par (i := 4) (j := 5) (by rfl) scBV.nd rfl rfl (by decide) rfl rfl (pa_cons (pe_tup (pa_cons (pv 6) (pa_cons (pv 7) pa_nil))) (pa_cons (pv 8) pa_nil)) (by rfl))) pss_nil)))))
      (pss_cons (ps_if (pt_cmpR op_isN (pv 4) pe_non (nomark _)) (pss_one (ps_ret pe_non)) pss_nil)
      (pss_cons (ps_asg (pv 4) (pg_tup rfl (pgs_cons (pg_name (i := 6) scBV.nd rfl (Or.inl rfl)) (pgs_cons (pg_name (i := 7) scBV.nd rfl (Or.inl rfl)) pgs_nil))))
      (pss_one (ps_ret (pe_tup (pa_cons (pv 6) (pa_cons (pv 7) (pa_cons (pe_call G0 (hr.mono (by decide)) (by rfl) m0 k0 b0 .nil pass0 (pa_cons (pv 5) (pa_cons (pe_op op_mul (pe_ix (show IxR _ (rIxT K) from ix_tup) (pv 2) pe_int (fun _ _ => rfl)) (pe_callB (cr_sum rfl) (by rfl) T.sum_ (by decide +kernel) (pa_cons (pe_listValsT rfl (pv 3) (by rfl) T.tlst) pa_nil))) pa_nil))) pa_nil)))))))))))))), ?_⟩
    refine ⟨x, rfl, x, o, rfl, wz, l100, fun Ga s1 => ⟨_, rfl, ?_⟩⟩
    refine ite2 (fun e => ?_) fun e => ?_
    · refine iteT (raised_v TE.ox TE.no rfl ((badO ?_).same s1))
      have e : areT o = false := by simpa using e
      cases o with
      | none => rfl
      | some os =>
        have e : os.all chaT = false := e
        show (os.all chaT && _) = false
        rw [e, Bool.false_and]
    have e : areT o = true := by simpa using e
    obtain ⟨ux, os, rfl, rfl, hux⟩ : ∃ (ux : Addr) (os : List OL), x = .ref ux ∧ o = some os ∧ ∃ xs : List V, (SqL K Ga ux xs ∨ SqT K Ga ux xs) ∧ xs.length = os.length := by
      cases wz with
      | no => cases e
      | @lst a vs os h m => exact ⟨a, os, rfl, rfl, vs, .inl (SqL.of (s1 _ _ h)), m.len⟩
      | @tup a vs os h m => exact ⟨a, os, rfl, rfl, vs, .inr (SqT.of (s1 _ _ h)), m.len⟩
    obtain ⟨xs, hxs, lxs⟩ := hux
    have e : os.all chaT = true := e
    have oc : okW (some os) = (decide (1 ≤ os.length) && decide (os.length ≤ 4)) := by
      show (os.all chaT && _) = _
      rw [e, Bool.true_and]
    refine ⟨_, rfl, ux, xs, rfl, hxs, _, _, rfl, rfl, _, rfl, ?_⟩
    have lx : ((xs.length : Nat) : Int) = os.length := by rw [lxs]
    rw [lx]
    have iv1 : (decide (1 ≤ ((os.length : Nat) : Int))) = decide (1 ≤ os.length) := decide_eq_decide.mpr (by omega)
    have iv2 : (decide (((os.length : Nat) : Int) ≤ 4)) = decide (os.length ≤ 4) := decide_eq_decide.mpr (by omega)
    rw [iv1]
    refine ite2 (fun e1 => ?_) fun e1 => ?_
    rotate_left
    · refine ⟨_, rfl, iteT (raised_v TE.ox TE.no rfl ((badO ?_).same s1))⟩
      rw [oc, Bool.eq_false_iff.mpr e1, Bool.false_and]
    refine ⟨_, _, rfl, rfl, _, rfl, ?_⟩
    rw [iv2]
    refine ite2 (fun e2 => ?_) fun e2 => ?_
    · refine raised_v TE.ox TE.no rfl ((badO ?_).same s1)
      rw [oc, show decide (os.length ≤ 4) = false by simpa using e2, Bool.and_false]
    have e2 : decide (os.length ≤ 4) = true := by simpa using e2
    have n1 := of_decide_eq_true e1
    have n4 := of_decide_eq_true e2
    obtain ⟨du, nu, badU, goodU⟩ := goodO os rfl (by rw [oc, e1, e2]; rfl)
    refine ⟨u, rfl, _, rfl, ux, xs, rfl, hxs, u, du, _, rfl, nu.same s1, fun no => ?_, fun okU => ?_⟩
    · rw [lx] at no
      exact (badU no).same s1
    rw [lx] at okU
    obtain ⟨o1, tz1, bad1, good1⟩ := goodU okU
    refine ⟨sh, rfl, sh, rfl, o1, tz1.same s1, fun no => (bad1 no).same s1, fun ok1 Gb s2 => ?_⟩
    obtain ⟨ua, R, un, sa, s, ea, rfl, rfl, hR, lR, uo, un0, un5, hs, cs, hT, q⟩ := good1 ok1
    cases ea
    have s12 := s1.trans s2
    have sq : ∀ {F : Hp}, UpsB F ux R → SqL K F ux (urefs R) ∨ SqT K F ux (urefs R) := fun h => h.1.imp SqL.of SqT.of
    have lx : (((urefs R).length : Nat) : Int) = os.length := by
      unfold urefs
      rw [List.length_map, lR]
    refine ⟨_, rfl, ux, _, rfl, sq (hR.same s12), _, rfl, by omega, by omega, hT.ext s12, fun p L Gc eN tN hL eL => ?_⟩
    rw [lx] at eL
    have lL : L.length ≤ 32 := by
      have e := congrArg List.length eL
      rw [List.length_map, (parts_perm _).length_eq, subs_len, rgZ_len] at e
      rw [e]
      exact pow5 (by omega)
    have e1 := (LamX.ExtN.of s12).trans eN
    refine ⟨_, rfl, p, ux, L, R, rfl, hL, hR.ext e1, uo, by rw [eL]; exact parts_nodup (by omega), lL, fun d Gd s3 hd => ?_⟩
    rw [lR, eL] at hd
    rw [lR] at q
    have e2 := e1.trans (LamX.ExtN.of s3)
    have t2 := tN.ext s3
    obtain ⟨U, hU⟩ : ∃ U, R.map (·.2) = U := ⟨_, rfl⟩
    have lU : U.length = os.length := by rw [← hU, List.length_map, lR]
    rw [hU] at q hd uo
    obtain ⟨n, hn⟩ : ∃ n, os.length = n := ⟨_, rfl⟩
    rw [hn] at q hd lU n1 n4
    have hs2 : Share Gd sa s := ext_tp e2 hs
    have hR2 := hR.ext e2
    refine ⟨_, rfl, ?_⟩
    refine ⟨_, rfl, ux, _, rfl, sq hR2, n, by rw [lx, hn]; rfl, n4, fun pv Lv Ge s4 hLv eLv => ?_⟩
    refine ⟨pv, rfl, ⟨_, SqL.of hLv.1⟩, ?_⟩
    have e3 := e2.trans (LamX.ExtN.of s4)
    have t3 := t2.ext s4
    have hd4 := s4 _ _ hd
    have hs4 : Share Ge sa s := s4 _ _ hs2
    have nfd : ∀ {F : Hp}, LamX.ExtN Ge F → F d = some (.dT (kvO (fun l => wtN U l n) (parts (rgZ n)))) := fun e => e _ _ hd4 fun _ z => by cases z
    have bv0 : BSt Ge .non (bestL (((votesL n).take 0).flatMap (candL U s un.toNat))) := rfl
    refine for_it (walk_list (K := K) (a := pv) (xs := refs Lv)) (fun i σ F => (∃ bv x6 x7 x8, σ = [some (.ref ux), some (.int un), some (.ref sa), some (.ref d), some bv, some (.int (gr (bestL (((votesL n).take i).flatMap (candL U s un.toNat))))), x6, x7, x8] ∧ BSt F bv (bestL (((votesL n).take i).flatMap (candL U s un.toNat)))) ∧ LamX.ExtN Ge F ∧ LamX.Tabs Tb F) ⟨⟨_, _, _, _, rfl, bv0⟩, fun _ _ h _ => h, t3⟩ (fun i σ F _ h => SqL.of (ext_at h.2.1 hLv.1)) ?_ ?_
    · rintro i y σ F F' hi ⟨⟨bv, x6, x7, x8, rfl, hb⟩, e4, t4⟩ ⟨rfl, hy⟩
      obtain ⟨r, hr', rfl⟩ := refs_get hy
      have rL := List.mem_of_getElem? hr'
      have hv : (votesL n)[i]? = some r.2 := by rw [← eLv, List.getElem?_map, hr']; rfl
      have vm := votesL_mem (List.mem_of_getElem? hv)
      have vk : Vok r.2 := ⟨by omega, by omega, fun x hx => ⟨(vm.2 x hx).1, by have := (vm.2 x hx).2; omega⟩⟩
      have hv4 := ext_tp e4 (hLv.2 r rL)
      have h4 := nfd e4
      rw [← vm.1] at h4
      refine ⟨_, rfl, _, rfl, _, rfl, _, rfl, r.1, d, sa, r.2, un, U, s, rfl, hv4, vk, un0, un5, h4, ext_tp e4 hs4, cs.sh, uo, t4, fun q5 N F5 e5 t5 hN eN => ?_⟩
      refine ⟨q5, rfl, ⟨_, SqL.of hN.1⟩, ?_⟩
      have e45 := e4.trans e5
      obtain ⟨pre, hpre⟩ : ∃ pre, ((votesL n).take i).flatMap (candL U s un.toNat) = pre := ⟨_, rfl⟩
      rw [hpre] at hb
      rw [hpre]
      have hnx : ((votesL n).take (i + 1)).flatMap (candL U s un.toNat) = pre ++ candL U s un.toNat r.2 := by
        rw [take_next1 hv, List.flatMap_append, hpre, List.flatMap_singleton]
      rw [hnx]
      have b0 : BSt F5 bv (bestL (pre ++ (candL U s un.toNat r.2).take 0)) := by
        rw [List.take_zero, List.append_nil]
        exact hb.ext e5
      have g0 : gr (bestL pre) = gr (bestL (pre ++ (candL U s un.toNat r.2).take 0)) := by rw [List.take_zero, List.append_nil]
      rw [g0]
      have lN : N.length = (candL U s un.toNat r.2).length := by
        have e := congrArg List.length eN
        rw [List.length_map, List.length_map] at e; skip
        rw [cand_len, e]
      refine for_it (walk_list (K := K) (a := q5) (xs := refs N)) (fun j σ F => (∃ bv x7 x8, σ = [some (.ref ux), some (.int un), some (.ref sa), some (.ref d), some bv, some (.int (gr (bestL (pre ++ (candL U s un.toNat r.2).take j)))), some (.ref r.1), x7, x8] ∧ BSt F bv (bestL (pre ++ (candL U s un.toNat r.2).take j))) ∧ LamX.ExtN F5 F ∧ LamX.Tabs Tb F) ⟨⟨_, _, _, rfl, b0⟩, fun _ _ h _ => h, t5⟩ (fun j σ F _ h => SqL.of (ext_at h.2.1 hN.1)) ?_ ?_
      · rintro j y σ F F' hj ⟨⟨bv, x7, x8, rfl, hb⟩, e6, t6⟩ ⟨rfl, hy⟩
        obtain ⟨z, hz', rfl⟩ := refs_get hy
        have zN := List.mem_of_getElem? hz'
        have hzm : ((needL r.2 un.toNat).map (pairN U s un.toNat r.2))[j]? = some z.2 := by rw [← eN, List.getElem?_map, hz']; rfl
        rw [List.getElem?_map] at hzm
        obtain ⟨nd, hnd, ez⟩ := Option.map_eq_some_iff.mp hzm
        have hca := cand_at (U := U) (s := s) hnd
        have hz6 := ext_tp e6 (hN.2 z zN)
        rw [← ez] at hz6
        refine ⟨z.1, _, rfl, SqT.of hz6, rfl, _, _, rfl, _, _, rfl, rfl, ?_⟩
        have gs := gr_snoc (pre ++ (candL U s un.toNat r.2).take j) (r.2, nd, wV U s un.toNat r.2 nd)
        rw [List.append_assoc, ← take_next1 hca] at gs
        refine ⟨_, rfl, _, rfl, rI0_to rfl ⟨_, rfl, ?_⟩⟩
        rw [gs]
        refine ite2 (fun e => ?_) fun e => ?_
        · have e' : wV U s un.toNat r.2 nd > gr (bestL (pre ++ (candL U s un.toNat r.2).take j)) := of_decide_eq_true e
          rw [if_pos e']
          refine ⟨_, rfl, _, rfl, by show 2 ≤ sizeLine; decide, fun p hp => ?_⟩
          have s7 := same_up (o := .tup [.ref r.1, .int nd]) hp
          refine ⟨_, rfl, _, _, rfl, ⟨_, _, _, rfl, p, r.1, rfl, upd_same, ?_⟩, e6.trans (LamX.ExtN.of s7), t6.ext s7⟩
          exact ext_tp ((e5.trans e6).trans (LamX.ExtN.of s7)) hv4
        · have e' : ¬ wV U s un.toNat r.2 nd > gr (bestL (pre ++ (candL U s un.toNat r.2).take j)) := by simpa using e
          rw [if_neg e']
          exact ⟨⟨_, _, _, rfl, hb⟩, e6, t6⟩
      · rintro σ F ⟨⟨bv, x7, x8, rfl, hb⟩, e6, t6⟩
        rw [refs_len, lN, List.take_length] at hb ⊢
        exact ⟨⟨_, _, _, _, rfl, hb⟩, e45.trans e6, t6⟩
    rintro σ F ⟨⟨bv, x6, x7, x8, rfl, hb⟩, e4, t4⟩
    have lv : (refs Lv).length = (votesL n).length := by rw [refs_len, ← eLv, List.length_map]
    rw [lv, List.take_length] at hb ⊢
    have eF := e3.trans e4
    have hq := fun v G e t => q v G e t
    unfold bestU at q
    cases hc : bestL ((votesL n).flatMap (candL U s un.toNat)) with
    | none =>
      rw [hc] at hb q
      have hb : bv = .non := hb
      subst hb
      exact ⟨_, rfl, rfl, _, rfl, iteT (q _ _ eF t4 rfl)⟩
    | some c =>
      rw [hc] at hb q
      obtain ⟨p, a, rfl, hp, ha⟩ := hb
      refine ⟨_, rfl, rfl, _, rfl, iteF ?_⟩
      refine ⟨_, rfl, p, _, rfl, SqT.of hp, rfl, _, _, rfl, _, _, rfl, rfl, ?_⟩
      refine ⟨_, rfl, _, rfl, _, rfl, _, rfl, sa, _, _, .int s.2, rfl, rfl, SqT.of (ext_tp e4 hs4), atI_nat (j := 1) rfl, ?_⟩
      have hd5 := nfd e4
      obtain ⟨kv, hkv⟩ : ∃ kv, kvO (fun l => wtN U l n) (parts (rgZ n)) = kv := ⟨_, rfl⟩
      rw [hkv] at hd5
      refine ⟨_, rfl, d, kv, rfl, hd5, fun p3 hp3 => ?_⟩
      have s6 := same_up (o := .lst (kv.map (·.2))) hp3
      have h6 : upd F p3 (.lst (kv.map (·.2))) p3 = some (.lst (kv.map (·.2))) := upd_same
      rw [← hkv, kvO_vals] at h6 s6 ⊢
      generalize upd F p3 (.lst (((parts (rgZ n)).map fun l => wtN U l n).map V.int)) = Gg at s6 h6 ⊢
      refine ⟨p3, _, rfl, SqL.of h6, ?_⟩
      have ew : ((parts (rgZ n)).map fun l => wtN U l n).sum = botN U n := (perm_sum ((parts_perm _).map _)).trans (whole _ _)
      rw [ew]
      have bb := botN_b uo n (by omega)
      have p6 := pow4 (n := n) (by omega)
      obtain ⟨s0_, s1_, s2_, s3_⟩ := cs.sh
      have m1 : 1 ≤ s.2 * botN U n := by
        have := Int.mul_le_mul s2_ bb.1 (by omega) (by omega)
        omega
      have m2 : s.2 * botN U n ≤ 6 * 7776 := Int.mul_le_mul s3_ (by omega) (by omega) (by omega)
      refine ⟨_, _, rfl, rfl, .inl ⟨by omega, by omega⟩, ?_⟩
      refine ⟨c.2.2, _, rfl, by omega, by omega, fun q1 Gh s7 f1 h1 => ?_⟩
      refine ⟨by show 3 ≤ sizeLine; decide, fun q3 hq3 => ?_⟩
      have s9 := same_up (o := .tup [.ref a, .int c.2.1, .ref q1]) hq3
      have s69 := (s6.trans s7).trans s9
      exact q (.ref q3) _ (eF.trans (LamX.ExtN.of s69)) (t4.ext s69) ⟨q3, a, q1, rfl, upd_same, s69 _ _ ha, s9 _ _ h1⟩
end
end Pl

namespace Pl
open L2 PySem PySem.Spec PyProof.Rows RZ
def spLUp : Sp := fun vs H Q _ => ∃ (n : Nat) (ua : Addr) (x : Rz) (r : Int), vs = [.int n, .ref ua, .int r] ∧ n ≤ 5 ∧ Share H ua x ∧ Cok x ∧ ∀ G, Same H G → Q (.int (atL (List.replicate n x) n r)) G
def spLCnt : Sp := fun vs H Q _ => ∃ (n : Nat) (un : Int) (ua sa : Addr) (x s : Rz), vs = [.int n, .int un, .ref ua, .ref sa] ∧ 1 ≤ n ∧ n ≤ 5 ∧ 0 ≤ un ∧ un ≤ n ∧ Share H ua x ∧ Share H sa s ∧ Cok x ∧ Cok s ∧ ∀ p L G, Same H G → Lots G p L → L.map (·.2) = topC (wC (List.replicate n x) n s) (cnts n un n) → Q (.ref p) G
abbrev nLUp : List Str := ["_law_many", "_law_up_here", "_law_least", "_law_lot"]
abbrev psLUp : List Str := ["_law_many", "_law_up_here", "_law_least"]
abbrev nLCnt : List Str := ["_law_many", "_law_unruly_here", "_law_up_here", "_law_share_here", "_law_best", "_law_found", "_law_r", "_law_w", "_law_worth_here"]
abbrev psLCnt : List Str := ["_law_many", "_law_unruly_here", "_law_up_here", "_law_share_here"]
theorem topC_len (f : Z → Int) (ls : List Z) : (topC f ls).length ≤ ls.length := List.length_filter_le _ _
section
variable {P : Program} {K : PySem.W.Frag} {w : World} {base : Heap} {mg : Str → Option Value}
theorem scLUp : FnScope nLUp psLUp (defScope sLUp) := ⟨rfl, rfl, rfl, by decide +kernel, rfl, by decide +kernel, by decide +kernel⟩
theorem ok_lup {f : Addr} {fd : FuncData} (F : Fun K "_law_up" "_law_up" sLUp f fd) (T : Cst mg) (D1 : Df P w K mg base 1 "_law_all_lots" ["_law_many"] spLAll) (D2 : Df P w K mg base 1 "_law_weight" ["_law_ups_here", "_law_lot"] spLWt) : FnOk P w K mg base CX0 2 f fd psLUp spLUp := by
  obtain ⟨e1, fd1, G1, m1, k1, b1⟩ := D1.ex
  obtain ⟨e2, fd2, G2, m2, k2, b2⟩ := D2.ex
  refine F.ok scLUp (fun vs H Q E h => ?_) (fun cdv A outer s0 H vs Q E hr h => ?_)
  · obtain ⟨n, ua, x, r, rfl, _⟩ := h
    rfl
  · obtain ⟨n, ua, x, r, rfl, n5, hx, cx, q⟩ := h
    refine ⟨_, pss_one (ps_ret (pe_callB (cr_sum rfl) (by rfl) T.sum_ (by decide +kernel) (pa_cons (pe_lc (own := [("_law_lot", 3)]) (g := gName 3) (tt := _) rfl scLUp.nd (pi_list (pe_call G1 hr (by rfl) m1 k1 b1 .nil pass0 (pa_cons (pv 0) pa_nil))) (blkOk_by (own := [("_law_lot", 3)]) (N := nLUp) (sc := defScope sLUp) (by decide +kernel))
          (fun _ _ _ _ _ => pg_name (i := 3) scLUp.nd rfl (Or.inl rfl)) (fun _ _ _ _ _ => pts_one (pt_cmpR op_ge (pe_callB (show CallR _ (.builtin "len") (rLenQ K) from call_len_seq) (by rfl) T.len PySem.boot_len (pa_cons (pv 3) pa_nil)) (pv 2) (nomark _))) (fun _ _ _ _ _ => pe_call G2 hr (by rfl) m2 k2 b2 .nil pass0 (pa_cons (pe_op (show OpR _ (binaryOp .Mult) rRep from op_rep) (pe_lst (pa_cons (pv 1) pa_nil)) (pv 0)) (pa_cons (pv 3) pa_nil)))) pa_nil))), ?_⟩
    refine ⟨_, rfl, n, rfl, by omega, by omega, fun p L G s1 hL eL => ⟨p, rfl, ⟨_, SqL.of hL.1⟩, fun D hD => ?_⟩⟩
    have lL : L.length ≤ 32 := by
      have e := congrArg List.length eL
      rw [List.length_map, subs_len, rgZ_len] at e
      rw [e]
      exact pow5 (by omega)
    have eR : (List.replicate n (ua, x)).map (·.2) = List.replicate n x := by rw [List.map_replicate]
    refine walk_core (walk_list (K := K) (a := p) (xs := refs L)) (fun i F => Same G F ∧ F D = some (.lst ((((L.take i).filter fun q => decide (((q.2.length : Nat) : Int) ≥ r)).map fun q => wtN (List.replicate n x) q.2 n).map V.int))) ⟨same_up hD, upd_same⟩ (fun _ _ _ g => SqL.of (g.1 _ _ hL.1)) ?_ ?_
    · rintro i y F F' hi ⟨s2, hD2⟩ ⟨rfl, hy⟩
      obtain ⟨z, hz, rfl⟩ := refs_get hy
      have zL := List.mem_of_getElem? hz
      have fs := filt_snoc hz (fun q : AT => decide (((q.2.length : Nat) : Int) ≥ r))
      have hb := s2 _ _ (hL.2 z zL)
      refine ⟨rfl, _, rfl, z.1, _, rfl, .inr (SqT.of hb), _, rfl, rI0_to rfl ⟨_, rfl, ?_⟩⟩
      rw [List.length_map]
      refine ite2 (fun e => ?_) fun e => ?_
      · rw [if_pos e] at fs
        refine ⟨_, rfl, by show 1 ≤ sizeLine; decide, fun b1 hb1 => ?_⟩
        have s4 : Same F' (upd F' b1 (.lst [.ref ua])) := same_up hb1
        have f4 : upd F' b1 (.lst [.ref ua]) b1 = some (.lst [.ref ua]) := upd_same
        generalize upd F' b1 (.lst [.ref ua]) = F4 at s4 f4 ⊢
        refine ⟨_, rfl, b1, n, [.ref ua], rfl, rfl, f4, by omega, by omega, by show 1 * (n : Int).toNat ≤ sizeLine; rw [sizeLine_eq]; omega, fun b2 hb2 => ?_⟩
        rw [rep_n, rep_au]
        have s5 : Same F4 (upd F4 b2 (.lst (urefs (List.replicate n (ua, x))))) := same_up hb2
        have f5 : upd F4 b2 (.lst (urefs (List.replicate n (ua, x)))) b2 = some (.lst (urefs (List.replicate n (ua, x)))) := upd_same
        generalize upd F4 b2 (.lst (urefs (List.replicate n (ua, x)))) = F5 at s5 f5 ⊢
        have s45 := s4.trans s5
        have s25 := s2.trans s45
        refine ⟨_, rfl, b2, z.1, List.replicate n (ua, x), z.2, rfl, f5, fun t ht => ?_, by rw [eR]; exact cok_rep cx n5, s45 _ _ hb, fun F6 s6 => ?_⟩
        · rw [List.eq_of_mem_replicate ht]
          exact s25 _ _ (s1 _ _ hx)
        rw [eR, List.length_replicate]
        have s46 := s45.trans s6
        refine ⟨_, s46 _ _ hD2, small1000 (by rw [List.length_map, List.length_map]; exact Nat.le_trans (filt_len L i _) (by omega)), sup hD (s2.trans s46), ?_⟩
        rw [upd_same, fs, List.map_append, List.map_append]
        rfl
      · rw [if_neg e, List.append_nil] at fs
        exact ⟨s2, by rw [fs]; exact hD2⟩
    · rintro F ⟨s2, hD2⟩
      rw [refs_len, List.take_length, pick_eq L (fun l => decide (((l.length : Nat) : Int) ≥ r)) fun l => wtN (List.replicate n x) l n, eL] at hD2
      exact ⟨D, _, rfl, SqL.of hD2, q _ (s1.trans s2)⟩
theorem scLCnt : FnScope nLCnt psLCnt (defScope sLCounts) := ⟨rfl, rfl, rfl, by decide +kernel, rfl, by decide +kernel, by decide +kernel⟩
theorem ok_lcnt {f : Addr} {fd : FuncData} (F : Fun K "_law_counts" "_law_counts" sLCounts f fd) (T : Cst mg) (D1 : Df P w K mg base 2 "_law_up" psLUp spLUp) : FnOk P w K mg base CX0 3 f fd psLCnt spLCnt := by
  obtain ⟨e1, fd1, G1, m1, k1, b1⟩ := D1.ex
  refine F.ok scLCnt (fun vs H Q E h => ?_) (fun cdv A outer s0 H vs Q E hr h => ?_)
  · obtain ⟨n, un, ua, sa, x, s, rfl, _⟩ := h
    rfl
  · obtain ⟨n, un, ua, sa, x, s, rfl, n1, n5, un0, un1, hx, hs, cx, cs, q⟩ := h
    refine ⟨_, pss_cons (ps_par (i := 4) (j := 5) (by rfl) scLCnt.nd rfl rfl (by decide) rfl rfl (pa_cons (pe_un un_neg pe_int) (pa_cons (pe_lst pa_nil) pa_nil)) (by rfl))
      (pss_cons (ps_for PassesOwn.never rfl (pi_range2 (by rfl) T.rng (pa_cons pe_int (pa_cons (pe_op op_add (pv 0) pe_int) pa_nil))) (pg_name (i := 6) scLCnt.nd rfl (Or.inl rfl))
        (pss_cons (ps_set (i := 7) scLCnt.nd rfl (Or.inl rfl) (pe_op op_sub (pe_op op_add (pe_op op_add (pv 0) (pv 1)) pe_int) (pv 6)))
        (pss_one (ps_if (pt_chain op_le op_le pe_int (pv 7) (pv 0))
          (pss_cons (ps_set (i := 8) scLCnt.nd rfl (Or.inl rfl) (pe_op op_add (pe_op op_mul (pe_ix (show IxR _ (rIxT K) from ix_tup) (pv 3) pe_int (fun _ _ => rfl)) (pe_call G1 hr (by rfl) m1 k1 b1 .nil pass0 (pa_cons (pv 0) (pa_cons (pv 2) (pa_cons (pv 6) pa_nil)))))
            (pe_op op_mul (pe_op op_sub (pe_ix (show IxR _ (rIxT K) from ix_tup) (pv 3) pe_int (fun _ _ => rfl)) (pe_ix (show IxR _ (rIxT K) from ix_tup) (pv 3) pe_int (fun _ _ => rfl))) (pe_call G1 hr (by rfl) m1 k1 b1 .nil pass0 (pa_cons (pv 0) (pa_cons (pv 2) (pa_cons (pv 7) pa_nil)))))))
          (pss_cons (ps_set (i := 5) scLCnt.nd rfl (Or.inl rfl) (pe_ifExp (pt_cmpR op_eq (pv 8) (pv 4) (nomark _)) (pe_op op_cat (pv 5) (pe_lst (pa_cons (pe_tup (pa_cons (pv 6) (pa_cons (pv 7) pa_nil))) pa_nil))) (pe_ifExp (pt_cmpR op_gt (pv 8) (pv 4) (nomark _)) (pe_lst (pa_cons (pe_tup (pa_cons (pv 6) (pa_cons (pv 7) pa_nil))) pa_nil)) (pv 5))))
          (pss_one (ps_set (i := 4) scLCnt.nd rfl (Or.inl rfl) (pe_callB (call_max2 rfl) (by rfl) T.max_ (by decide +kernel) (pa_cons (pe_callTy call_int1 (by rfl) T.tint (by decide +kernel) (pa_cons (pv 4) pa_nil)) (pa_cons (pe_callTy call_int1 (by rfl) T.tint (by decide +kernel) (pa_cons (pv 8) pa_nil)) pa_nil))))))) pss_nil))))
      (pss_one (ps_ret (pv 5)))), ?_⟩
    obtain ⟨U, hU⟩ : ∃ U, List.replicate n x = U := ⟨_, rfl⟩
    have uo : Upok U := hU ▸ cok_rep cx n5
    rw [hU] at q
    refine ⟨_, rfl, by show 0 ≤ sizeLine; decide, fun d0 hd0 => ⟨_, _, rfl, ?_⟩⟩
    have sA : Same H (upd H d0 (.lst [])) := same_up hd0
    have fA : Lots (upd H d0 (.lst [])) d0 [] := ⟨upd_same, fun q hq => by cases hq⟩
    generalize upd H d0 (.lst []) = G0 at sA fA ⊢
    refine ⟨_, rfl, _, _, rfl, rfl, 1, (n : Int) + 1, rfl, ⟨by omega, by omega, by omega, by omega⟩, ?_⟩
    rw [show ((n : Int) + 1 - 1).toNat = n by omega]
    refine for_range (lo := 1) (n := n) (fun i σ F => ∃ d x6 x7 x8 L, σ = [some (.int n), some (.int un), some (.ref ua), some (.ref sa), some (.int (mxZ ((cnts n un i).map (wC U n s)))), some (.ref d), x6, x7, x8] ∧ Same H F ∧ Lots F d L ∧ L.map (·.2) = topC (wC U n s) (cnts n un i)) ⟨d0, _, _, _, [], rfl, sA, fA, rfl⟩ ?_ ?_
    · rintro i σ F hi ⟨d, x6, x7, x8, L, rfl, s1, hL, eL⟩
      have lL : L.length ≤ 5 := by
        have e := congrArg List.length eL
        rw [List.length_map] at e
        have h1 := topC_len (wC U n s) (cnts n un i)
        have h2 := cnts_len n un i
        omega
      refine ⟨_, rfl, _, rfl, _, _, rfl, rfl, _, _, rfl, rfl, _, rfl, rI0_to (v := V.int ((n : Int) + un + 1 - (1 + (i : Int)))) rfl ?_⟩
      have es := cnts_succ n un i
      have ew : okP n (prC n un i) = (decide (1 ≤ (n : Int) + un + 1 - (1 + (i : Int))) && decide ((n : Int) + un + 1 - (1 + (i : Int)) ≤ n)) := rfl
      have hp : prC n un i = [1 + (i : Int), (n : Int) + un + 1 - (1 + (i : Int))] := rfl
      rw [hp] at es ew
      generalize (n : Int) + un + 1 - (1 + (i : Int)) = wr at es ew ⊢
      have no : okP n [1 + (i : Int), wr] = false → cnts n un (i + 1) = cnts n un i := fun e => by
        rw [es, e, if_neg (by decide), List.append_nil]
      refine ⟨_, rfl, _, _, rfl, rfl, _, rfl, ?_⟩; skip
      refine ite2 (fun e1 => ?_) fun e1 => ?_
      · refine ⟨_, rfl, _, _, rfl, rfl, _, rfl, ?_⟩
        refine ite2 (fun e2 => ?_) fun e2 => ?_
        · have ok : okP n [1 + (i : Int), wr] = true := by
            rw [ew, show decide (1 ≤ wr) = true from e1, show decide (wr ≤ (n : Int)) = true from e2]
            rfl
          rw [if_pos ok] at es
          obtain ⟨s0_, s1_, s2_, s3_⟩ := cs.sh
          refine ⟨_, rfl, sa, _, _, .int s.1, rfl, rfl, SqT.of (s1 _ _ hs), atI_nat (j := 0) rfl, _, rfl, _, rfl, _, rfl, n, ua, x, _, rfl, n5, s1 _ _ hx, cx, fun F1 t1 => ?_⟩
          rw [hU]
          have st1 := s1.trans t1
          refine ⟨_, _, rfl, rfl, .inl ⟨by omega, by omega⟩, ?_⟩
          refine ⟨_, rfl, sa, _, _, .int s.2, rfl, rfl, SqT.of (st1 _ _ hs), atI_nat (j := 1) rfl, _, rfl, sa, _, _, .int s.1, rfl, rfl, SqT.of (st1 _ _ hs), atI_nat (j := 0) rfl, ?_⟩
          refine rI0_to rfl ⟨_, rfl, _, rfl, _, rfl, n, ua, x, _, rfl, n5, st1 _ _ hx, cx, fun F2 t2 => ?_⟩
          rw [hU]
          refine ⟨_, _, rfl, rfl, .inl ⟨by omega, by omega⟩, ?_⟩
          refine rI0_to (v := V.int (wC U n s [1 + (i : Int), wr])) rfl ?_
          have st2 := st1.trans t2
          have hL2 := (hL.same t1).same t2
          have ts := topC_snoc (wC U n s) (cnts n un i) [1 + (i : Int), wr]
          have ms := mxZ_snoc ((cnts n un i).map (wC U n s)) (wC U n s [1 + (i : Int), wr])
          rw [show (cnts n un i).map (wC U n s) ++ [wC U n s [1 + (i : Int), wr]] = (cnts n un (i + 1)).map (wC U n s) by rw [es, List.map_append]; rfl] at ms
          rw [← es] at ts
          rw [ms, ts]
          generalize wC U n s [1 + (i : Int), wr] = wo at ts ms ⊢
          generalize mxZ ((cnts n un i).map (wC U n s)) = mo at ts ms ⊢
          refine ⟨_, rfl, _, rfl, rfl, _, rfl, ?_⟩; skip
          rw [intEq]
          refine ite2 (fun e => ?_) fun e => ?_
          · have e := of_decide_eq_true e
            rw [if_pos e]
            refine ⟨_, rfl, _, rfl, _, rfl, by show 2 ≤ sizeLine; decide, fun tq htq => ⟨by show 1 ≤ sizeLine; decide, fun l1 hl1 => ?_⟩⟩
            have t3 := same_up (o := .tup [.int (1 + (i : Int)), .int wr]) htq
            have f3 : upd F2 tq (.tup [.int (1 + (i : Int)), .int wr]) tq = some (.tup [.int (1 + (i : Int)), .int wr]) := upd_same
            generalize upd F2 tq (.tup [.int (1 + (i : Int)), .int wr]) = F3 at t3 f3 hl1 ⊢
            have t4 := same_up (o := .lst [.ref tq]) hl1
            have f4 : upd F3 l1 (.lst [.ref tq]) l1 = some (.lst [.ref tq]) := upd_same
            generalize upd F3 l1 (.lst [.ref tq]) = F4 at t4 f4 ⊢
            have hL4 := (hL2.same t3).same t4
            refine ⟨d, l1, _, _, rfl, rfl, hL4.1, f4, Nat.le_of_lt (small1000 (by rw [refs_len]; show L.length + 1 ≤ 1000; omega)), fun p2 hp2 => ?_⟩
            have t5 := same_up (o := .lst (refs L ++ [.ref tq])) hp2
            refine ⟨_, rfl, .inl ⟨_, rfl, _, rfl, .inl ⟨_, rfl, _, _, rfl, ?_⟩⟩⟩
            refine ⟨p2, _, _, _, L ++ [(tq, [1 + (i : Int), wr])], rfl, ((st2.trans t3).trans t4).trans t5, ⟨by rw [upd_same, refs_app]; rfl, fun r hr => ?_⟩, ?_⟩
            · rcases List.mem_append.mp hr with h | h
              · exact t5 _ _ (hL4.2 r h)
              · rw [List.mem_singleton] at h
                rw [h]
                exact t5 _ _ (t4 _ _ f3)
            · rw [List.map_append, eL]
              rfl
          · have e : ¬ wo = mo := by simpa using e
            rw [if_neg e]
            refine ⟨_, rfl, _, rfl, rI0_to rfl ⟨_, rfl, ?_⟩⟩
            refine ite2 (fun e2 => ?_) fun e2 => ?_
            · have e2 := of_decide_eq_true e2
              rw [if_pos e2]
              refine ⟨_, rfl, _, rfl, by show 2 ≤ sizeLine; decide, fun tq htq => ⟨by show 1 ≤ sizeLine; decide, fun l1 hl1 => ?_⟩⟩
              have t3 := same_up (o := .tup [.int (1 + (i : Int)), .int wr]) htq
              have f3 : upd F2 tq (.tup [.int (1 + (i : Int)), .int wr]) tq = some (.tup [.int (1 + (i : Int)), .int wr]) := upd_same
              generalize upd F2 tq (.tup [.int (1 + (i : Int)), .int wr]) = F3 at t3 f3 hl1 ⊢
              have t4 := same_up (o := .lst [.ref tq]) hl1
              have f4 : upd F3 l1 (.lst [.ref tq]) l1 = some (.lst [.ref tq]) := upd_same
              refine ⟨_, rfl, .inl ⟨_, rfl, _, rfl, .inl ⟨_, rfl, _, _, rfl, ?_⟩⟩⟩
              refine ⟨l1, _, _, _, [(tq, [1 + (i : Int), wr])], rfl, (st2.trans t3).trans t4, ⟨f4, fun r hr => ?_⟩, rfl⟩
              rw [List.mem_singleton] at hr
              rw [hr]
              exact t4 _ _ f3
            · have e2 : ¬ wo > mo := by simpa using e2
              rw [if_neg e2]
              refine ⟨_, rfl, _, rfl, .inl ⟨_, rfl, _, rfl, .inl ⟨_, rfl, _, _, rfl, ?_⟩⟩⟩
              exact ⟨d, _, _, _, L, rfl, st2, hL2, eL⟩
        · have en := no (by rw [ew, show decide (wr ≤ (n : Int)) = false from Bool.eq_false_iff.mpr e2, Bool.and_false])
          rw [en]
          exact ⟨d, _, _, _, L, rfl, s1, hL, eL⟩
      · have en := no (by rw [ew, show decide (1 ≤ wr) = false from Bool.eq_false_iff.mpr e1, Bool.false_and])
        rw [en]
        exact ⟨_, rfl, iteF ⟨d, _, _, _, L, rfl, s1, hL, eL⟩⟩
    · rintro σ F ⟨d, x6, x7, x8, L, rfl, s1, hL, eL⟩
      exact ⟨_, rfl, q d L F s1 hL eL⟩
end
end Pl

namespace Pl
open L2 PySem PySem.Spec PyProof.Rows RZ
abbrev grow (ls : List Z) : List Z := ls.flatMap fun v => (rgZ 4).map fun x => v ++ [x]
def spLLong : Sp := fun vs H Q _ => ∃ (p : Addr) (L : List AT), vs = [.ref p] ∧ Lots H p L ∧ L.length ≤ 64 ∧ (∀ q ∈ L, q.2.length ≤ 4) ∧ ∀ p2 M G, Same H G → Lots G p2 M → M.map (·.2) = grow (L.map (·.2)) → Q (.ref p2) G
def spLAllV : Sp := fun vs H Q _ => ∃ (n : Nat), vs = [.int n] ∧ n ≤ 4 ∧ ∀ p L G, Same H G → Lots G p L → L.map (·.2) = (votesL n).filter (fun v => decide (v.sum > 0)) → Q (.ref p) G
abbrev nLL4 : List Str := ["_law_some_votes", "_law_later", "_law_some", "_law_one_here"]
abbrev nLAV : List Str := ["_law_many", "_law_found", "_law_copy", "_law_some"]
theorem grow_len (ls : List Z) : (grow ls).length = 4 * ls.length := flat4 (fun v => by rw [List.length_map]; rfl) ls
section
variable {P : Program} {K : PySem.W.Frag} {w : World} {base : Heap} {mg : Str → Option Value}
theorem scLLong : FnScope nLL4 ["_law_some_votes"] (defScope sLLonger) := ⟨rfl, rfl, rfl, by decide +kernel, rfl, by decide +kernel, by decide +kernel⟩
theorem ok_llong {f : Addr} {fd : FuncData} (F : Fun K "_law_longer" "_law_longer" sLLonger f fd) (T : Cst mg) : FnOk P w K mg base CX0 1 f fd ["_law_some_votes"] spLLong := by
  refine F.ok scLLong (fun vs H Q E h => ?_) (fun cdv A outer s0 H vs Q E hr h => ?_)
  · obtain ⟨p, L, rfl, _⟩ := h
    rfl
  · obtain ⟨p, L, rfl, hL, lL, lq, q⟩ := h
    refine ⟨_, pss_cons (ps_set (i := 1) scLLong.nd rfl (Or.inl rfl) (pe_lst pa_nil))
      (pss_cons (ps_for PassesOwn.never rfl (pi_list (pv 0)) (pg_name (i := 2) scLLong.nd rfl (Or.inr rfl))
        (pss_one (ps_expr (pe_bm PySem.F.plainAttrs_list PySem.F.slot_list_extend PySem.F.type_list_extend mt_extend (pv 1) (pa_cons (pe_lc (own := [("_law_one_here", 3)]) (g := gName 3) (tt := tYes) rfl scLLong.nd (pi_range1 (by rfl) T.rng (pa_cons pe_int pa_nil)) (blkOk_by (own := [("_law_one_here", 3)]) (N := nLL4) (sc := defScope sLLonger) (by decide +kernel))
          (fun _ _ _ _ _ => pg_name (i := 3) scLLong.nd rfl (Or.inl rfl)) (fun _ _ _ _ _ => pts_nil) (fun _ _ _ _ _ => pe_op (show OpR _ (binaryOp .Add) (rCatA K) from op_catA) (pv 2) (pe_tup (pa_cons (pv 3) pa_nil)))) pa_nil)))))
      (pss_one (ps_ret (pv 1)))), ?_⟩
    refine ⟨by show 0 ≤ sizeLine; decide, fun d0 hd0 => ?_⟩
    have sA : Same H (upd H d0 (.lst [])) := same_up hd0
    have fA : Lots (upd H d0 (.lst [])) d0 [] := ⟨upd_same, fun q hq => by cases hq⟩
    refine ⟨_, rfl, p, rfl, ⟨_, SqL.of (sA _ _ hL.1)⟩, ?_⟩
    refine for_it (walk_list (K := K) (a := p) (xs := refs L)) (fun i σ F => ∃ x2 M, σ = [some (.ref p), some (.ref d0), x2, none] ∧ Same H F ∧ Lots F d0 M ∧ M.map (·.2) = grow ((L.take i).map (·.2))) ⟨_, [], rfl, sA, fA, by rw [List.take_zero]; rfl⟩ (fun i σ F _ h => by
      obtain ⟨_, _, _, h, _⟩ := h
      exact SqL.of (h _ _ hL.1)) ?_ ?_
    · rintro i y σ F F' hi ⟨x2, M, rfl, s1, hM, eM⟩ ⟨rfl, hy⟩
      obtain ⟨r, hr', rfl⟩ := refs_get hy
      have rL := List.mem_of_getElem? hr'
      have h5 := lq r rL
      rw [refs_len] at hi
      have lM : M.length = 4 * i := by
        have e := congrArg List.length eM
        rw [List.length_map, grow_len, List.length_map, List.length_take, Nat.min_eq_left (by omega)] at e
        exact e
      have hr1 := s1 _ _ (hL.2 r rL)
      refine ⟨_, rfl, .inl ⟨rfl, _, SqL.of hM.1⟩, 4, rfl, by decide, by decide, fun D hD => ?_⟩
      refine walk_core (walk_range (lo := 0) (n := (4 : Int).toNat)) (fun k F2 => ∃ N : List AT, Same F' F2 ∧ Lots F2 D N ∧ N.map (·.2) = ((rgZ 4).take k).map fun x => r.2 ++ [x]) ⟨[], same_up hD, ⟨upd_same, fun q hq => by cases hq⟩, rfl⟩ (fun _ _ _ _ => trivial) ?_ ?_
      · rintro k y F2 F3 hk ⟨N, s3, hN, eN⟩ ⟨rfl, rfl⟩
        have hk4 : k < 4 := hk
        have hx : (rgZ 4)[k]? = some (0 + (k : Int)) := rgZ_get hk4
        refine ⟨rfl, _, rfl, _, rfl, by show 1 ≤ sizeLine; decide, fun t1 ht1 => ?_⟩
        have s4 := same_up (o := .tup [.int (0 + (k : Int))]) ht1
        have f4 : upd F3 t1 (.tup [.int (0 + (k : Int))]) t1 = some (.tup [.int (0 + (k : Int))]) := upd_same
        refine cat_any (s4 _ _ (s3 _ _ hr1)) f4 (by rw [List.length_map]; show r.2.length + 1 ≤ 1000; omega) fun p F4 s5 hp2 => ?_
        have s45 := s4.trans s5
        have hA : Lots (upd F4 D (.lst (refs N ++ [.ref p]))) D (N ++ [(p, r.2 ++ [0 + (k : Int)])]) := lots_app (q := (p, r.2 ++ [0 + (k : Int)])) (hN.same s45) (by rw [List.map_append]; exact hp2)
        have lN : N.length = k := by
          have e := congrArg List.length eN
          rw [List.length_map, List.length_map, List.length_take, Nat.min_eq_left (by rw [rgZ_len]; show k ≤ 4; omega)] at e
          exact e
        refine ⟨_, s45 _ _ hN.1, small1000 (by rw [refs_len, lN]; omega), N ++ [(p, r.2 ++ [0 + (k : Int)])], sup hD (s3.trans s45), hA, ?_⟩
        rw [List.map_append, eN, take_next1 hx, List.map_append]
        rfl
      · rintro F2 ⟨N, s3, hN, eN⟩
        have lN : N.length = 4 := by
          have e := congrArg List.length eN
          rw [List.length_map] at e
          exact e
        have hM2 := hM.same s3
        refine ⟨d0, D, _, _, rfl, rfl, hM2.1, hN.1, Nat.le_of_lt (small1000 (by rw [refs_len, refs_len, lM, lN]; omega)), ?_⟩
        have keep : ∀ (b : Addr) (zs : List V), F2 b = some (.tup zs) → upd F2 d0 (.lst (refs M ++ refs N)) b = some (.tup zs) := fun b zs e => tup_but e hM2.1
        refine ⟨_, M ++ N, rfl, sup hd0 (s1.trans s3), ⟨by rw [upd_same, refs_app], fun r hr => ?_⟩, ?_⟩
        · rcases List.mem_append.mp hr with h | h
          · exact keep _ _ (hM2.2 r h)
          · exact keep _ _ (hN.2 r h)
        · rw [List.map_append, eM, eN, take_next1 hr', List.map_append]
          show _ = grow _
          unfold grow
          rw [List.flatMap_append]
          rfl
    · rintro σ F ⟨x2, M, rfl, s1, hM, eM⟩
      rw [refs_len, List.take_length] at eM
      exact ⟨_, rfl, q d0 M F s1 hM eM⟩
theorem scLAV : FnScope nLAV ["_law_many"] (defScope sLAllV) := ⟨rfl, rfl, rfl, by decide +kernel, rfl, by decide +kernel, by decide +kernel⟩
theorem ok_lav {f : Addr} {fd : FuncData} (F : Fun K "_law_all_votes" "_law_all_votes" sLAllV f fd) (T : Cst mg) (D1 : Df P w K mg base 1 "_law_longer" ["_law_some_votes"] spLLong) : FnOk P w K mg base CX0 2 f fd ["_law_many"] spLAllV := by
  obtain ⟨e1, fd1, G1, m1, k1, b1⟩ := D1.ex
  refine F.ok scLAV (fun vs H Q E h => ?_) (fun cdv A outer s0 H vs Q E hr h => ?_)
  · obtain ⟨n, rfl, _⟩ := h
    rfl
  · obtain ⟨n, rfl, n4, q⟩ := h
    refine ⟨_, pss_cons (ps_set (i := 1) scLAV.nd rfl (Or.inl rfl) (pe_lst (pa_cons (pe_tup pa_nil) pa_nil)))
      (pss_cons (ps_for PassesOwn.never rfl (pi_range1 (by rfl) T.rng (pa_cons (pv 0) pa_nil)) (pg_name (i := 2) scLAV.nd rfl (Or.inl rfl))
        (pss_one (ps_set (i := 1) scLAV.nd rfl (Or.inl rfl) (pe_call G1 hr (by rfl) m1 k1 b1 .nil pass0 (pa_cons (pv 1) pa_nil)))))
      (pss_one (ps_ret (pe_lc (own := [("_law_some", 3)]) (g := gName 3) (tt := _) rfl scLAV.nd (pi_list (pv 1)) (blkOk_by (own := [("_law_some", 3)]) (N := nLAV) (sc := defScope sLAllV) (by decide +kernel))
          (fun _ _ _ _ _ => pg_name (i := 3) scLAV.nd rfl (Or.inl rfl)) (fun _ _ _ _ _ => pts_one (pt_cmpR op_gt (pe_callB (show CallR _ (.builtin "sum") (rSumT K) from cr_sumT rfl) (by rfl) T.sum_ (by decide +kernel) (pa_cons (pv 3) pa_nil)) pe_int (nomark _))) (fun _ _ _ _ _ => pv 3))))), ?_⟩
    refine ⟨by show 0 ≤ sizeLine; decide, fun t0 ht0 => ⟨by show 1 ≤ sizeLine; decide, fun p0 hp0 => ?_⟩⟩
    have sA : Same H (upd H t0 (.tup [])) := same_up ht0
    have fA : upd H t0 (.tup []) t0 = some (.tup []) := upd_same
    generalize upd H t0 (.tup []) = G0 at sA fA hp0 ⊢
    have sB : Same G0 (upd G0 p0 (.lst [.ref t0])) := same_up hp0
    have hp : upd G0 p0 (.lst [.ref t0]) p0 = some (.lst [.ref t0]) := upd_same
    have f0 := sB _ _ fA
    have s0 := sA.trans sB
    generalize upd G0 p0 (.lst [.ref t0]) = G1 at s0 hp f0 ⊢
    refine ⟨_, rfl, n, rfl, by omega, by omega, ?_⟩
    refine for_it (walk_range (lo := 0) (n := (n : Int).toNat)) (fun i σ G => ∃ d L x2, σ = [some (.int n), some (.ref d), x2, none] ∧ Same H G ∧ Lots G d L ∧ L.map (·.2) = votesL i)
      ⟨p0, [(t0, [])], _, rfl, s0, ⟨hp, fun q hq => by
        rw [List.mem_singleton] at hq
        rw [hq]
        exact f0⟩, rfl⟩ (fun _ _ _ _ _ => trivial) ?_ ?_
    · rintro i y σ G G' hi ⟨d, L, x2, rfl, s1, hL, eL⟩ ⟨rfl, rfl⟩
      have hi : i < n := hi
      have lL : L.length ≤ 64 := by
        have e := congrArg List.length eL
        rw [List.length_map, votesL_len] at e
        rw [e]
        have : i = 0 ∨ i = 1 ∨ i = 2 ∨ i = 3 := by omega
        rcases this with rfl | rfl | rfl | rfl <;> decide
      have lq : ∀ q ∈ L, q.2.length ≤ 4 := fun q hq => by
        have m : q.2 ∈ votesL i := eL ▸ List.mem_map.mpr ⟨q, hq, rfl⟩
        rw [(votesL_mem m).1]
        omega
      refine ⟨_, rfl, d, L, rfl, hL, lL, lq, fun p2 M G2 s2 hM eM => ?_⟩
      exact ⟨p2, M, _, rfl, s1.trans s2, hM, by rw [eM, eL]; rfl⟩
    · rintro σ G ⟨d, L, x2, rfl, s1, hL, eL⟩
      have eL : L.map (·.2) = votesL n := eL
      have lL : L.length ≤ 256 := by
        have e := congrArg List.length eL
        rw [List.length_map, votesL_len] at e
        rw [e]
        exact pow44 n4
      refine ⟨_, rfl, d, rfl, ⟨_, SqL.of hL.1⟩, fun D hD => ?_⟩
      refine walk_core (walk_list (K := K) (a := d) (xs := refs L)) (fun i F => Same G F ∧ F D = some (.lst (refs ((L.take i).filter fun q => decide (q.2.sum > 0))))) ⟨same_up hD, upd_same⟩ (fun _ _ _ g => SqL.of (g.1 _ _ hL.1)) ?_ ?_
      · rintro i y F F' hi ⟨s2, hD2⟩ ⟨rfl, hy⟩
        obtain ⟨z, hz, rfl⟩ := refs_get hy
        have zL := List.mem_of_getElem? hz
        have fs := filt_snoc hz (fun q : AT => decide (q.2.sum > 0))
        refine ⟨rfl, _, rfl, z.1, _, rfl, SqT.of (s2 _ _ (hL.2 z zL)), _, _, rfl, rfl, _, rfl, ?_⟩
        refine ite2 (fun e => ?_) fun e => ?_
        · rw [if_pos e] at fs
          refine ⟨_, rfl, _, hD2, small1000 (by rw [refs_len]; exact Nat.le_trans (filt_len L i _) (by omega)), sup hD s2, ?_⟩
          rw [upd_same, fs, refs_app]
          rfl
        · rw [if_neg e, List.append_nil] at fs
          exact ⟨s2, by rw [fs]; exact hD2⟩
      · rintro F ⟨s2, hD2⟩
        rw [refs_len, List.take_length] at hD2
        refine q D (L.filter fun q => decide (q.2.sum > 0)) F (s1.trans s2) ⟨hD2, fun r hr => s2 _ _ (hL.2 r (List.mem_filter.mp hr).1)⟩ ?_
        rw [← eL, List.filter_map]
        rfl
end
end Pl

namespace Pl
open L2 PySem PySem.Spec PyProof.Rows RZ
def spLWo : Sp := fun vs H Q _ => ∃ (a ua sa : Addr) (v : Z) (nd u : Int) (R : List AU) (s : Rz), vs = [.ref a, .int nd, .int u, .ref ua, .ref sa] ∧ H a = some (.tup (v.map V.int)) ∧ Vok v ∧ 0 ≤ u ∧ u ≤ 5 ∧ H ua = some (.lst (urefs R)) ∧ (∀ r ∈ R, H r.1 = some (.tup [.int r.2.1, .int r.2.2])) ∧ Upok (R.map (·.2)) ∧ R.length = v.length ∧ Share H sa s ∧ Shok s ∧ ∀ G, Same H G → Q (.int (wV (R.map (·.2)) s u.toNat v nd)) G
def spLDue : Sp := fun vs H Q _ => ∃ (ua sa : Addr) (u : Int) (R : List AU) (s : Rz), vs = [.ref ua, .int u, .ref sa] ∧ 0 ≤ u ∧ u ≤ 5 ∧ H ua = some (.lst (urefs R)) ∧ (∀ r ∈ R, H r.1 = some (.tup [.int r.2.1, .int r.2.2])) ∧ Upok (R.map (·.2)) ∧ 1 ≤ R.length ∧ R.length ≤ 4 ∧ Share H sa s ∧ Shok s ∧ ∀ v G, Same H G → BvIs G v (s.2 * botN (R.map (·.2)) R.length) (bestU (R.map (·.2)) s u.toNat R.length) → Q v G
abbrev nLWo : List Str := ["_law_some", "_law_need_here", "_law_unruly_here", "_law_ups_here", "_law_share_here", "_law_writable", "_law_readable", "_law_lot", "_law_weight_here"]
abbrev psLWo : List Str := ["_law_some", "_law_need_here", "_law_unruly_here", "_law_ups_here", "_law_share_here"]
abbrev nLDue : List Str := ["_law_ups_here", "_law_unruly_here", "_law_share_here", "_law_best", "_law_found", "_law_under", "_law_up_here", "_law_some", "_law_need_here", "_law_worth_here"]
abbrev psLDue : List Str := ["_law_ups_here", "_law_unruly_here", "_law_share_here"]
abbrev psLE : List Str := ["_law_votes_here", "_law_need_here", "_law_unruly_here", "_law_lot"]
section
variable {P : Program} {K : PySem.W.Frag} {w : World} {base : Heap} {mg : Str → Option Value}
theorem scLWo : FnScope nLWo psLWo (defScope sLWorth) := ⟨rfl, rfl, rfl, by decide +kernel, rfl, by decide +kernel, by decide +kernel⟩
theorem ok_lwo {f : Addr} {fd : FuncData} (F : Fun K "_law_worth" "_law_worth" sLWorth f fd) (T : Cst mg) (D1 : Df P w K mg base 1 "_law_all_lots" ["_law_many"] spLAll) (D2 : Df P w K mg base 1 "_law_weight" ["_law_ups_here", "_law_lot"] spLWt) (D3 : Df P w K mg base 1 "_law_sum" ["_law_votes_here", "_law_lot"] spLSum) (D4 : Df P w K mg base 2 "_law_is_enough" psLE spLEn) : FnOk P w K mg base CX0 3 f fd psLWo spLWo := by
  obtain ⟨e1, fd1, G1, m1, k1, b1⟩ := D1.ex
  obtain ⟨e2, fd2, G2, m2, k2, b2⟩ := D2.ex
  obtain ⟨e3, fd3, G3, m3, k3, b3⟩ := D3.ex
  obtain ⟨e4, fd4, G4, m4, k4, b4⟩ := D4.ex
  refine F.ok scLWo (fun vs H Q E h => ?_) (fun cdv A outer s0 H vs Q E hr h => ?_)
  · obtain ⟨a, ua, sa, v, nd, u, R, s, rfl, _⟩ := h
    rfl
  · obtain ⟨a, ua, sa, v, nd, u, R, s, rfl, ha, vk, u0, u5, hua, hR, uo, lR, hs, sok, q⟩ := h
    refine ⟨_, pss_cons (ps_asg (pe_tup (pa_cons pe_int (pa_cons pe_int pa_nil))) (pg_tup rfl (pgs_cons (pg_name (i := 5) scLWo.nd rfl (Or.inl rfl)) (pgs_cons (pg_name (i := 6) scLWo.nd rfl (Or.inl rfl)) pgs_nil))))
      (pss_cons (ps_for PassesOwn.never rfl (pi_list (pe_call G1 (hr.mono (by decide)) (by rfl) m1 k1 b1 .nil pass0 (pa_cons (pe_callB (show CallR _ (.builtin "len") (rLenQ K) from call_len_seq) (by rfl) T.len PySem.boot_len (pa_cons (pv 0) pa_nil)) pa_nil))) (pg_name (i := 7) scLWo.nd rfl (Or.inl rfl))
        (pss_cons (ps_set (i := 8) scLWo.nd rfl (Or.inl rfl) (pe_call G2 (hr.mono (by decide)) (by rfl) m2 k2 b2 .nil pass0 (pa_cons (pv 3) (pa_cons (pv 7) pa_nil))))
        (pss_cons (ps_set (i := 5) scLWo.nd rfl (Or.inl rfl) (pe_op op_add (pv 5) (pe_op op_mul (pv 8) (pe_callTy call_int1 (by rfl) T.tint (by decide +kernel) (pa_cons (pe_cmpR op_ge (pe_call G3 (hr.mono (by decide)) (by rfl) m3 k3 b3 .nil pass0 (pa_cons (pv 0) (pa_cons (pv 7) pa_nil))) (pv 1) (nomark _)) pa_nil)))))
        (pss_one (ps_set (i := 6) scLWo.nd rfl (Or.inl rfl) (pe_op op_add (pv 6) (pe_op op_mul (pv 8) (pe_callTy call_int1 (by rfl) T.tint (by decide +kernel) (pa_cons (pe_call G4 (hr.mono (by decide)) (by rfl) m4 k4 b4 .nil pass0 (pa_cons (pv 0) (pa_cons (pv 1) (pa_cons (pv 2) (pa_cons (pv 7) pa_nil))))) pa_nil)))))))))
      (pss_one (ps_ret (pe_op op_add (pe_op op_mul (pe_ix (show IxR _ (rIxT K) from ix_tup) (pv 4) pe_int (fun _ _ => rfl)) (pv 6)) (pe_op op_mul (pe_op op_sub (pe_ix (show IxR _ (rIxT K) from ix_tup) (pv 4) pe_int (fun _ _ => rfl)) (pe_ix (show IxR _ (rIxT K) from ix_tup) (pv 4) pe_int (fun _ _ => rfl))) (pv 5)))))), ?_⟩
    have n5 : v.length ≤ 5 := vk.len
    obtain ⟨U, hU⟩ : ∃ U, R.map (·.2) = U := ⟨_, rfl⟩
    rw [hU] at q uo
    refine ⟨by show 2 ≤ sizeLine; decide, fun tz htz => ⟨tz, _, rfl, SqT.of upd_same, rfl, _, _, rfl, _, _, rfl, rfl, ?_⟩⟩
    have sz := same_up (o := .tup [.int 0, .int 0]) htz
    generalize upd H tz (.tup [.int 0, .int 0]) = Hz at sz ⊢
    refine ⟨_, rfl, a, _, rfl, .inr (SqT.of (sz _ _ ha)), v.length, by rw [List.length_map]; rfl, by omega, by omega, fun pl L G s1' hL eL => ⟨pl, rfl, ⟨_, SqL.of hL.1⟩, ?_⟩⟩
    have s1 := sz.trans s1'
    have lL : L.length ≤ 32 := by
      have e := congrArg List.length eL
      rw [List.length_map, subs_len, rgZ_len] at e
      rw [e]
      exact pow5 (by omega)
    have fL : ∀ q ∈ L, Lot v.length q.2 := fun q hq => (rgZ_lot _).sub (mem_subs.mp (eL ▸ List.mem_map.mpr ⟨q, hq, rfl⟩))
    have fL5 : ∀ q ∈ L, q.2.length ≤ 5 := fun q hq => ((fL q hq).mono (m := 5) (by omega)).len
    refine for_it (walk_list (K := K) (a := pl) (xs := refs L)) (fun j σ F => (∃ x7 x8, σ = [some (.ref a), some (.int nd), some (.int u), some (.ref ua), some (.ref sa), some (.int (((L.map (·.2)).take j).map fun l => wtN U l v.length * (if writeP v nd l = true then 1 else 0)).sum), some (.int (((L.map (·.2)).take j).map fun l => wtN U l v.length * (if enoughP v nd u.toNat l = true then 1 else 0)).sum), x7, x8]) ∧ Same G F) ⟨⟨_, _, rfl⟩, fun _ _ e => e⟩ (fun j σ F _ h => SqL.of (h.2 _ _ hL.1)) ?_ ?_
    · rintro j y σ F F' hj ⟨⟨x7, x8, rfl⟩, s7⟩ ⟨rfl, hy⟩
      obtain ⟨r, hr', rfl⟩ := refs_get hy
      have rL := List.mem_of_getElem? hr'
      have r5 := fL5 r rL
      have ht : (L.map (·.2))[j]? = some r.2 := by rw [List.getElem?_map, hr']; rfl
      have vl : Vl v u r.2 := ⟨vk, u0, by omega, fL r rL⟩
      have s17 := s1.trans s7
      have hv7 := s17 _ _ ha
      have hr7 := s7 _ _ (hL.2 r rL)
      have wb := wtN_s uo r.2 (n := v.length) n5
      rw [take_next1 ht, List.map_append, List.map_append, List.sum_append, List.sum_append, List.map_singleton, List.map_singleton, List.sum_singleton, List.sum_singleton]
      generalize (((L.map (·.2)).take j).map fun l => wtN U l v.length * (if writeP v nd l = true then 1 else 0)).sum = SA
      generalize (((L.map (·.2)).take j).map fun l => wtN U l v.length * (if enoughP v nd u.toNat l = true then 1 else 0)).sum = SB
      refine ⟨_, rfl, _, rfl, ua, r.1, R, r.2, rfl, s17 _ _ hua, fun c hc => s17 _ _ (hR c hc), by rw [hU]; exact uo, hr7, fun F1 q1 => ?_⟩
      rw [hU, lR]
      refine ⟨_, rfl, _, rfl, _, rfl, _, rfl, a, r.1, v, r.2, rfl, q1 _ _ hv7, q1 _ _ hr7, (fL r rL).2, by omega, fun F2 q2 => ⟨_, rfl, rI0_to (v := V.bl (writeP v nd r.2)) rfl (.inr ⟨_, rfl, _, _, rfl, rfl, .inl ⟨by omega, by omega⟩, _, _, rfl, rfl, ?_⟩)⟩⟩
      have q12 := q1.trans q2
      refine ⟨_, rfl, _, rfl, _, rfl, _, rfl, _, rfl, _, rfl, a, r.1, v, r.2, nd, u, rfl, q12 _ _ hv7, q12 _ _ hr7, vl, fun F4 q4 => .inr ⟨_, rfl, _, _, rfl, rfl, .inl ⟨by omega, by omega⟩, _, _, rfl, rfl, ?_⟩⟩
      exact ⟨⟨_, _, rfl⟩, (s7.trans q12).trans q4⟩
    rintro σ F7 ⟨⟨x7, x8, rfl⟩, s7⟩
    rw [refs_len, ← List.length_map (f := (·.2)) (as := L), List.take_length, eL, sum_pick (fun l => wtN U l v.length), sum_pick (fun l => wtN U l v.length)]
    have wb := wrS_b (nd := nd) (v := v) uo
    have rb := reS_b (nd := nd) (u := u.toNat) (v := v) uo
    have s17 := s1.trans s7
    obtain ⟨s0_, s1_, s2_, s3_⟩ := sok
    refine ⟨_, rfl, sa, _, _, .int s.1, rfl, rfl, SqT.of (s17 _ _ hs), atI_nat (j := 0) rfl, _, rfl, _, _, rfl, rfl, .inl ⟨by omega, by omega⟩, ?_⟩
    refine ⟨_, rfl, sa, _, _, .int s.2, rfl, rfl, SqT.of (s17 _ _ hs), atI_nat (j := 1) rfl, _, rfl, sa, _, _, .int s.1, rfl, rfl, SqT.of (s17 _ _ hs), atI_nat (j := 0) rfl, ?_⟩
    exact rI0_to rfl ⟨_, rfl, _, _, rfl, rfl, .inl ⟨by omega, by omega⟩, rI0_to rfl (q F7 s17)⟩
theorem scLDue : FnScope nLDue psLDue (defScope sLDue) := ⟨rfl, rfl, rfl, by decide +kernel, rfl, by decide +kernel, by decide +kernel⟩
theorem bst_upd {H G : Hp} {v : V} {c : Option Cd} (s : Same H G) (h : BvIs H v b c) : BvIs G v b c := by
  cases c with
  | none => exact h
  | some c =>
    obtain ⟨p, a, q, e, h1, h2, h3⟩ := h
    exact ⟨p, a, q, e, s _ _ h1, s _ _ h2, s _ _ h3⟩
theorem ok_ldue {f : Addr} {fd : FuncData} (F : Fun K "_law_votes_due" "_law_votes_due" sLDue f fd) (T : Cst mg) (D1 : Df P w K mg base 2 "_law_all_votes" ["_law_many"] spLAllV) (D2 : Df P w K mg base 2 "_law_is_enough" psLE spLEn) (D3 : Df P w K mg base 3 "_law_worth" psLWo spLWo) (D4 : Df P w K mg base 1 "_law_lowered" ["_law_over", "_law_under"] spLLow) : FnOk P w K mg base CX0 4 f fd psLDue spLDue := by
  obtain ⟨e1, fd1, G1, m1, k1, b1⟩ := D1.ex
  obtain ⟨e2, fd2, G2, m2, k2, b2⟩ := D2.ex
  obtain ⟨e3, fd3, G3, m3, k3, b3⟩ := D3.ex
  obtain ⟨e4, fd4, G4, m4, k4, b4⟩ := D4.ex
  refine F.ok scLDue (fun vs H Q E h => ?_) (fun cdv A outer s0 H vs Q E hr h => ?_)
  · obtain ⟨ua, sa, u, R, s, rfl, _⟩ := h
    rfl
  · obtain ⟨ua, sa, u, R, s, rfl, u0, u5, hua, hR, uo, n1, n4, hs, sok, q⟩ := h
    refine ⟨_, pss_cons (ps_par3 (i := 3) (j := 4) (l := 5) (by rfl) scLDue.nd rfl rfl rfl (by decide) (by decide) (by decide) rfl rfl rfl (pa_cons (pe_un un_neg pe_int) (pa_cons pe_non (pa_cons (pe_ix (show IxR _ (rIxT K) from ix_tup) (pv 2) pe_int (fun _ _ => rfl)) pa_nil))) (by rfl))
      (pss_cons (ps_for PassesOwn.never rfl (pi_list (pv 0)) (pg_name (i := 6) scLDue.nd rfl (Or.inl rfl)) (pss_one (ps_set (i := 5) scLDue.nd rfl (Or.inl rfl) (pe_op op_mul (pv 5) (pe_ix (show IxR _ (rIxT K) from ix_tup) (pv 6) pe_int (fun _ _ => rfl))))))
      (pss_cons (ps_for PassesOwn.never rfl (pi_list (pe_call G1 (hr.mono (by decide)) (by rfl) m1 k1 b1 .nil pass0 (pa_cons (pe_callB (show CallR _ (.builtin "len") (rLenQ K) from call_len_seq) (by rfl) T.len PySem.boot_len (pa_cons (pv 0) pa_nil)) pa_nil))) (pg_name (i := 7) scLDue.nd rfl (Or.inl rfl))
        (pss_one (ps_for PassesOwn.never rfl (pi_range2 (by rfl) T.rng (pa_cons pe_int (pa_cons (pe_op op_add (pe_callB (cr_sumT rfl) (by rfl) T.sum_ (by decide +kernel) (pa_cons (pv 7) pa_nil)) pe_int) pa_nil))) (pg_name (i := 8) scLDue.nd rfl (Or.inl rfl))
          (pss_one (ps_if (pt_val (pe_call G2 (hr.mono (by decide)) (by rfl) m2 k2 b2 .nil pass0 (pa_cons (pv 7) (pa_cons (pv 8) (pa_cons (pv 1) (pa_cons (pe_tupRg rfl (by rfl) T.ttup (prg_1 (by rfl) T.rng (pe_callB (show CallR _ (.builtin "len") (rLenQ K) from call_len_seq) (by rfl) T.len PySem.boot_len (pa_cons (pv 7) pa_nil)))) pa_nil))))))
            (pss_cons (ps_set (i := 9) scLDue.nd rfl (Or.inl rfl) (pe_call G3 (hr.mono (by decide)) (by rfl) m3 k3 b3 .nil pass0 (pa_cons (pv 7) (pa_cons (pv 8) (pa_cons (pv 1) (pa_cons (pv 0) (pa_cons (pv 2) pa_nil)))))))
            (pss_one (ps_if (pt_cmpR op_gt (pv 9) (pv 3) (nomark _)) (pss_one (ps_par (i := 3) (j := 4) (by rfl) scLDue.nd rfl rfl (by decide) rfl rfl (pa_cons (pv 9) (pa_cons (pe_tup (pa_cons (pv 7) (pa_cons (pv 8) (pa_cons (pe_call G4 (hr.mono (by decide)) (by rfl) m4 k4 b4 .nil pass0 (pa_cons (pv 9) (pa_cons (pv 5) pa_nil))) pa_nil)))) pa_nil)) (by rfl))) pss_nil))) pss_nil)))))
      (pss_one (ps_ret (pv 4))))), ?_⟩
    obtain ⟨U, hU⟩ : ∃ U, R.map (·.2) = U := ⟨_, rfl⟩
    rw [hU] at q uo
    obtain ⟨n, hn⟩ : ∃ n, R.length = n := ⟨_, rfl⟩
    rw [hn] at q n1 n4
    have lU : U.length = n := by rw [← hU, List.length_map, hn]
    obtain ⟨s0_, s1_, s2_, s3_⟩ := sok
    refine ⟨_, rfl, ?_⟩
    refine ⟨_, rfl, sa, _, _, .int s.2, rfl, rfl, SqT.of hs, atI_nat (j := 1) rfl, _, _, _, rfl, ?_⟩
    have ul : (urefs R).length = n := (List.length_map _).trans hn
    refine ⟨_, rfl, ua, rfl, ⟨_, SqL.of hua⟩, ?_⟩
    refine for_it (walk_list (K := K) (a := ua) (xs := urefs R)) (fun j σ F => (∃ x6, σ = [some (.ref ua), some (.int u), some (.ref sa), some (.int (-1)), some .non, some (.int (s.2 * botN U j)), x6, none, none, none]) ∧ Same H F) ⟨⟨none, ?_⟩, fun _ _ e => e⟩ (fun j σ F _ h => SqL.of (h.2 _ _ hua)) ?_ ?_
    · show _ = [_, _, _, _, _, some (V.int (s.2 * 1)), _, _, _, _]
      rw [Int.mul_one]
      rfl
    · rintro j y σ F F' hj ⟨⟨x6, rfl⟩, s5⟩ ⟨rfl, hy⟩
      obtain ⟨c', hc, rfl⟩ := urefs_get hy
      have hc4 := s5 _ _ (hR c' (List.mem_of_getElem? hc))
      have gd : U.getD j (0, 0) = c'.2 := by
        rw [← hU, List.getD_eq_getElem?_getD, List.getElem?_map, hc]
        rfl
      rw [ul] at hj
      have bb := botN_b uo j (by omega)
      have p6 := pow4 (n := j) (by omega)
      have m2 : s.2 * botN U j ≤ 6 * 7776 := Int.mul_le_mul s3_ (by omega) (by omega) (by omega)
      have m0 : 0 ≤ s.2 * botN U j := Int.mul_nonneg (by omega) (by omega)
      refine ⟨_, rfl, _, rfl, c'.1, _, _, .int c'.2.2, rfl, rfl, SqT.of hc4, atI_nat (j := 1) rfl, _, _, rfl, rfl, .inl ⟨by omega, by omega⟩, ?_⟩
      have eb : s.2 * botN U (j + 1) = s.2 * botN U j * c'.2.2 := by
        show s.2 * (botN U j * (U.getD j (0, 0)).2) = _
        rw [gd, Int.mul_assoc]
      rw [eb]
      exact ⟨⟨_, rfl⟩, s5⟩
    rintro σ F ⟨⟨x6, rfl⟩, s5⟩
    rw [ul]
    have bb := botN_b uo n (by omega)
    have p6 := pow4 (n := n) (by omega)
    have m1 : 1 ≤ s.2 * botN U n := by
      have := Int.mul_le_mul s2_ bb.1 (by omega) (by omega)
      omega
    have m2 : s.2 * botN U n ≤ 6 * 7776 := Int.mul_le_mul s3_ (by omega) (by omega) (by omega)
    have wB : ∀ v nd, v.length = n → 0 ≤ wV U s u.toNat v nd ∧ wV U s u.toNat v nd ≤ s.2 * botN U n := fun v nd e => e ▸ wV_b uo ⟨s0_, s1_, s2_, s3_⟩ u.toNat v nd
    unfold bestU at q
    generalize s.2 * botN U n = bt at q m1 m2 wB ⊢
    refine ⟨_, rfl, ua, _, rfl, .inl (SqL.of (s5 _ _ hua)), n, by rw [ul]; rfl, n4, fun pv Lv Ge s6 hLv eLv => ⟨pv, rfl, ⟨_, SqL.of hLv.1⟩, ?_⟩⟩
    have s56 := s5.trans s6
    have nnV : ∀ v ∈ votesL n, ∀ x ∈ v, 0 ≤ x := fun v hv x hx => ((votesL_mem hv).2 x hx).1
    rw [← flat_pos nnV] at q
    obtain ⟨VS, hVS⟩ : ∃ VS, (votesL n).filter (fun v => decide (v.sum > 0)) = VS := ⟨_, rfl⟩
    have mV : ∀ v ∈ VS, v ∈ votesL n := fun v hv => (List.mem_filter.mp (hVS ▸ hv)).1
    rw [hVS] at q eLv
    refine for_it (walk_list (K := K) (a := pv) (xs := refs Lv)) (fun i σ F => (∃ bv x6 x7 x8 x9, σ = [some (.ref ua), some (.int u), some (.ref sa), some (.int (gr (bestL ((VS.take i).flatMap (candL U s u.toNat))))), some bv, some (.int bt), x6, x7, x8, x9] ∧ BvIs F bv bt (bestL ((VS.take i).flatMap (candL U s u.toNat)))) ∧ Same Ge F) ⟨⟨_, _, _, _, _, rfl, rfl⟩, fun _ _ h => h⟩ (fun i σ F _ h => SqL.of (h.2 _ _ hLv.1)) ?_ ?_
    · rintro i y σ F F' hi ⟨⟨bv, x6, x7, x8, x9, rfl, hb⟩, s7⟩ ⟨rfl, hy⟩
      obtain ⟨r, hr', rfl⟩ := refs_get hy
      have rL := List.mem_of_getElem? hr'
      have hv : VS[i]? = some r.2 := by rw [← eLv, List.getElem?_map, hr']; rfl
      have vm := votesL_mem (mV _ (List.mem_of_getElem? hv))
      have vk : Vok r.2 := ⟨by omega, by omega, fun x hx => ⟨(vm.2 x hx).1, by have := (vm.2 x hx).2; omega⟩⟩
      have sm := vk.sum9
      have s0' : 0 ≤ r.2.sum := by
        have e1 : vsum r.2 (rgZ r.2.length) = r.2.sum := rgN_sum r.2
        have := vsum_nn vk.nn (rgZ r.2.length)
        rwa [e1] at this
      have hv7 := s7 _ _ (hLv.2 r rL)
      refine ⟨_, rfl, r.1, _, rfl, SqT.of hv7, _, _, rfl, rfl, 1, r.2.sum + 1, rfl, ⟨by omega, by omega, by omega, by omega⟩, ?_⟩
      rw [show (r.2.sum + 1 - 1).toNat = r.2.sum.toNat by omega]
      have nf := need_filt vk.nn u.toNat
      obtain ⟨NS, hNS⟩ : ∃ NS, (List.range r.2.sum.toNat).map (fun i : Nat => 1 + (i : Int)) = NS := ⟨_, rfl⟩
      have lNS : NS.length = r.2.sum.toNat := by rw [← hNS, List.length_map, List.length_range]
      rw [hNS] at nf
      obtain ⟨pre, hpre⟩ : ∃ pre, (VS.take i).flatMap (candL U s u.toNat) = pre := ⟨_, rfl⟩
      rw [hpre] at hb
      rw [hpre]
      have ca : ∀ j, (((NS.take j).filter fun nd => enoughP r.2 nd u.toNat (rgZ r.2.length)).map fun nd => ((r.2, nd, wV U s u.toNat r.2 nd) : Cd)) = (((NS.take j).filter fun nd => enoughP r.2 nd u.toNat (rgZ r.2.length)).map fun nd => ((r.2, nd, wV U s u.toNat r.2 nd) : Cd)) := fun _ => rfl
      have hnx : (VS.take (i + 1)).flatMap (candL U s u.toNat) = pre ++ ((NS.filter fun nd => enoughP r.2 nd u.toNat (rgZ r.2.length)).map fun nd => ((r.2, nd, wV U s u.toNat r.2 nd) : Cd)) := by
        rw [take_next1 hv, List.flatMap_append, hpre, List.flatMap_singleton, nf]
        rfl
      rw [hnx]
      obtain ⟨cj, hcj⟩ : ∃ cj : Nat → List Cd, ∀ j, cj j = ((NS.take j).filter fun nd => enoughP r.2 nd u.toNat (rgZ r.2.length)).map fun nd => ((r.2, nd, wV U s u.toNat r.2 nd) : Cd) := ⟨_, fun _ => rfl⟩
      have c0 : bestL pre = bestL (pre ++ cj 0) := by rw [hcj, List.take_zero]; simp
      rw [c0] at hb ⊢
      refine for_range (lo := 1) (n := r.2.sum.toNat) (fun j σ F => (∃ bv x8 x9, σ = [some (.ref ua), some (.int u), some (.ref sa), some (.int (gr (bestL (pre ++ cj j)))), some bv, some (.int bt), x6, some (.ref r.1), x8, x9] ∧ BvIs F bv bt (bestL (pre ++ cj j))) ∧ Same Ge F) ⟨⟨_, _, _, rfl, hb⟩, s7⟩ ?_ ?_
      · rintro j σ F hj ⟨⟨bv, x8, x9, rfl, hb⟩, s8⟩
        have hnd : NS[j]? = some (1 + (j : Int)) := by
          rw [← hNS, List.getElem?_map, List.getElem?_range hj]
          rfl
        have fs := filt_snoc hnd (fun nd => enoughP r.2 nd u.toNat (rgZ r.2.length))
        generalize 1 + (j : Int) = nd at hnd fs ⊢
        have hv8 := s8 _ _ (hLv.2 r rL)
        refine ⟨_, rfl, _, rfl, _, rfl, _, rfl, r.1, _, rfl, .inr (SqT.of hv8), _, rfl, RgOk.of_le (by decide) (by rw [List.length_map]; omega) (by decide) (by omega), fun tq htq => ?_⟩
        rw [rgV_rgZ, List.length_map]
        have s9 := same_up (o := .tup ((rgZ r.2.length).map V.int)) htq
        have f9 : upd F tq (.tup ((rgZ r.2.length).map V.int)) tq = some (.tup ((rgZ r.2.length).map V.int)) := upd_same
        generalize upd F tq (.tup ((rgZ r.2.length).map V.int)) = F9 at s9 f9 ⊢
        refine ⟨r.1, tq, r.2, rgZ r.2.length, nd, u, rfl, s9 _ _ hv8, f9, ⟨vk, u0, u5, rgZ_lot _⟩, fun F10 s10 => ⟨_, rfl, ?_⟩⟩
        have s910 := s9.trans s10
        have s80 := s8.trans s910
        have b80 := bst_upd s910 hb
        refine ite2 (fun e => ?_) fun e => ?_
        · rw [if_pos e] at fs
          have cn : cj (j + 1) = cj j ++ [(r.2, nd, wV U s u.toNat r.2 nd)] := by rw [hcj, hcj, fs, List.map_append]; rfl
          have s08 := s56.trans s80
          refine ⟨_, rfl, _, rfl, _, rfl, _, rfl, _, rfl, r.1, ua, sa, r.2, nd, u, R, s, rfl, s910 _ _ hv8, vk, u0, u5, s08 _ _ hua, fun c hc => s08 _ _ (hR c hc), by rw [hU]; exact uo, by rw [hn, vm.1], s08 _ _ hs, ⟨s0_, s1_, s2_, s3_⟩, fun F11 s11 => ?_⟩
          rw [hU]
          have gs := gr_snoc (pre ++ cj j) (r.2, nd, wV U s u.toNat r.2 nd)
          rw [List.append_assoc, ← cn] at gs
          obtain ⟨w0, w1⟩ := wB r.2 nd vm.1
          rw [gs]
          have b81 := bst_upd s11 b80
          refine ⟨_, rfl, _, rfl, rI0_to rfl ⟨_, rfl, ?_⟩⟩
          refine ite2 (fun e => ?_) fun e => ?_
          · have e' : wV U s u.toNat r.2 nd > gr (bestL (pre ++ cj j)) := of_decide_eq_true e
            rw [if_pos e']
            refine ⟨_, rfl, _, rfl, _, rfl, _, rfl, _, rfl, _, _, rfl, by omega, by omega, by omega, by omega, fun p F12 s12 f12 h12 => ?_⟩
            refine ⟨by show 3 ≤ sizeLine; decide, fun p3 hp3 => ?_⟩
            have s13 := same_up (o := .tup [.ref r.1, .int nd, .ref p]) hp3
            refine ⟨_, _, rfl, ⟨_, _, _, rfl, p3, r.1, p, rfl, upd_same, ?_, s13 _ _ h12⟩, ((s80.trans s11).trans s12).trans s13⟩
            exact (((s80.trans s11).trans s12).trans s13) _ _ (hLv.2 r rL)
          · have e' : ¬ wV U s u.toNat r.2 nd > gr (bestL (pre ++ cj j)) := by simpa using e
            rw [if_neg e']
            exact ⟨⟨_, _, _, rfl, b81⟩, s80.trans s11⟩
        · rw [if_neg e, List.append_nil] at fs
          have cn : cj (j + 1) = cj j := by rw [hcj, hcj, fs]
          rw [cn]
          exact ⟨⟨_, _, _, rfl, b80⟩, s80⟩
      · rintro σ F ⟨⟨bv, x8, x9, rfl, hb⟩, s8⟩
        rw [hcj, ← lNS, List.take_length] at hb ⊢
        exact ⟨⟨_, _, _, _, _, rfl, hb⟩, s8⟩
    rintro σ F ⟨⟨bv, x6, x7, x8, x9, rfl, hb⟩, s7⟩
    have lv : (refs Lv).length = VS.length := by rw [refs_len, ← eLv, List.length_map]
    rw [lv, List.take_length] at hb
    exact ⟨_, rfl, q bv F (s56.trans s7) hb⟩
end
end Pl

namespace Pl
open PySem
/-! ### four copies, each up with one half -/
def sureQ (v : Z) (u : Nat) (l : Z) : Int := match u with
  | 0 => vsum v l
  | _ => vsum v l - (l.map (vt v)).foldl max 0
def enQ (v : Z) (nd : Int) (u : Nat) (l : Z) : Bool := decide (sureQ v u l > v.sum - nd)
def wrQ (v : Z) (nd : Int) : Int := ((((subs (rgZ 4)).filter (writeP v nd)).length : Nat) : Int)
def reQ (v : Z) (nd : Int) (u : Nat) : Int := ((((subs (rgZ 4)).filter (enQ v nd u)).length : Nat) : Int)
def needQ (v : Z) (u : Nat) : Z := (List.range (sureQ v u (rgZ 4)).toNat).map fun i : Nat => v.sum - sureQ v u (rgZ 4) + 1 + (i : Int)
def candQ (s : Rz) (u : Nat) (v : Z) : List Cd := (needQ v u).map fun nd => (v, nd, worZ s (reQ v nd u) (wrQ v nd))
def bestQ (s : Rz) (u : Nat) : Option Cd := bestL ((votesL 4).flatMap (candQ s u))
theorem top_one {v : Z} (nn : ∀ x ∈ v, 0 ≤ x) (l : Z) : vsum v (heavy v 1 l) = (l.map (vt v)).foldl max 0 := by
  have sd := sorted_V v l
  have pm := List.mergeSort_perm l (leV v)
  unfold heavy
  generalize l.mergeSort (leV v) = ds at sd pm
  obtain ⟨m1, m2, m3⟩ := fold_max (l.map (vt v)) 0
  generalize (l.map (vt v)).foldl max 0 = m at m1 m2 m3
  cases ds with
  | nil =>
    have : l = [] := List.nil_perm.mp pm
    subst this
    rcases m1 with e | e
    · rw [e]
      rfl
    · cases e
  | cons d ds =>
    have e1 : vsum v ((d :: ds).take 1) = vt v d := by
      rw [List.take_succ_cons, List.take_zero, vsum_cons]
      show vt v d + 0 = _
      omega
    rw [e1]
    have h1 := m3 (vt v d) (List.mem_map.mpr ⟨d, pm.mem_iff.mp List.mem_cons_self, rfl⟩)
    have h2 := vt_nn nn d
    rcases m1 with e | e
    · omega
    · obtain ⟨x, hx, ex⟩ := List.mem_map.mp e
      rcases List.mem_cons.mp (pm.mem_iff.mpr hx) with e2 | e2
      · rw [e2] at ex
        omega
      · have := (List.pairwise_cons.mp sd).1 x e2
        omega
theorem sure_eq {v : Z} (nn : ∀ x ∈ v, 0 ≤ x) {u : Nat} (h : u ≤ 1) (l : Z) : sureP v u l = sureQ v u l := by
  have : u = 0 ∨ u = 1 := by omega
  rcases this with rfl | rfl
  · show vsum v l - 0 = vsum v l
    omega
  · show vsum v l - vsum v (heavy v 1 l) = vsum v l - (l.map (vt v)).foldl max 0
    rw [top_one nn]
abbrev halves : Ups := List.replicate 4 (1, 2)
theorem half_wt (l : Z) : wtN halves l 4 = 1 := by
  have f : ∀ i : Nat, i < 4 → fac halves l i = 1 := fun i h => by
    have : i = 0 ∨ i = 1 ∨ i = 2 ∨ i = 3 := by omega
    rcases this with rfl | rfl | rfl | rfl <;> (unfold fac; split <;> rfl)
  show wtN halves l (3 + 1) = 1
  simp only [wtN, f 0 (by decide), f 1 (by decide), f 2 (by decide), f 3 (by decide)]
  rfl
theorem ones {f : Z → Int} (h : ∀ l, f l = 1) : ∀ ls : List Z, (ls.map f).sum = ((ls.length : Nat) : Int)
  | [] => rfl
  | l :: ls => by
    rw [List.map_cons, List.sum_cons, ones h ls, h, List.length_cons]
    omega
theorem flat_congr {f g : Z → List Cd} : ∀ {ls : List Z}, (∀ v ∈ ls, f v = g v) → ls.flatMap f = ls.flatMap g
  | [], _ => rfl
  | v :: ls, h => by
    rw [List.flatMap_cons, List.flatMap_cons, h v List.mem_cons_self, flat_congr fun w hw => h w (List.mem_cons_of_mem _ hw)]
theorem best_half {s : Rz} {u : Nat} (h : u ≤ 1) : bestU halves s u 4 = bestQ s u := by
  unfold bestU bestQ
  refine congrArg bestL (flat_congr fun v hv => ?_)
  obtain ⟨l4, b⟩ := votesL_mem hv
  have nn : ∀ x ∈ v, 0 ≤ x := fun x hx => (b x hx).1
  have ef : fullS v u = sureQ v u (rgZ 4) := by
    unfold fullS
    rw [sure_eq nn h, l4]
    rfl
  have en : needL v u = needQ v u := by
    unfold needL needQ
    rw [ef]
  have ew : ∀ nd, wrS halves v nd = wrQ v nd := fun nd => by
    unfold wrS wrQ
    rw [l4, ones half_wt]
    rfl
  have er : ∀ nd, reS halves v nd u = reQ v nd u := fun nd => by
    unfold reS reQ
    have : enoughP v nd u = enQ v nd u := by
      funext l
      unfold enoughP enQ
      rw [sure_eq nn h]
    rw [l4, ones half_wt, this]
    rfl
  unfold candL candQ
  rw [en]
  refine List.map_congr_left fun nd _ => ?_
  unfold wV
  rw [ew, er]
theorem four0 : bestU halves (1, 1) 0 4 = some ([1, 1, 1, 1], 4, 15) := by
  rw [best_half (by decide)]
  decide +kernel
theorem four1 : bestU halves (0, 1) 0 4 = some ([1, 1, 1, 1], 1, 15) := by
  rw [best_half (by decide)]
  decide +kernel
theorem four2 : bestU halves (1, 1) 1 4 = some ([1, 1, 1, 1], 4, 11) := by
  rw [best_half (by decide)]
  decide +kernel
theorem four3 : bestU halves (1, 2) 0 4 = some ([0, 0, 0, 1], 1, 16) := by
  rw [best_half (by decide)]
  decide +kernel
theorem half_bot : botN halves 4 = 16 := by decide +kernel
theorem half_ok : Upok halves := ⟨by decide, fun p hp => by
  rw [List.eq_of_mem_replicate hp]
  decide⟩
theorem low0 : lowZ 15 16 = (15, 16) := by decide +kernel
theorem low2 : lowZ 11 16 = (11, 16) := by decide +kernel
theorem low3 : lowZ 16 32 = (1, 2) := by decide +kernel
end Pl

namespace Pl
open L2 PySem PySem.Spec PyProof.Rows RZ
theorem within_hi {i lo hi : Int} (h : hi < i) : within (.int i) lo hi = false := by
  show (decide (lo ≤ i) && decide (i ≤ hi)) = false
  rw [decide_eq_false (by omega : ¬ i ≤ hi), Bool.and_false]
theorem within_in {i lo hi : Int} (h : lo ≤ i) (g : i ≤ hi) : within (.int i) lo hi = true := by
  show (decide (lo ≤ i) && decide (i ≤ hi)) = true
  rw [decide_eq_true h, decide_eq_true g]
  rfl
/-- two told beside each other; what is told is made by the call -/
theorem ne_triedM {K : PySem.W.Frag} {Tb : TbL} {c : Fo} {C : Addr} {t : XK → TE} {tR : TE} {e : PyData} {w : Str} {σ : L2.St} {G : Hp} {Q : Bool → Hp → Prop} (hw : c.is_ w (.ref C)) (hT : LamX.Tabs Tb G)
    (raise : ∀ (E : XK) (H1 : Hp) (Q' : VK), LamX.ExtN G H1 → LamX.Tabs Tb H1 → (∀ v H2, Same H1 H2 → OdV H2 v e → Rais C v H2 E) → t E σ H1 Q') (sm : SmD e)
    (right : ∀ (H1 : Hp) (Q' : VK), LamX.ExtN G H1 → (∀ p2 G2, Same H1 G2 → G2 p2 = some (outL w e) → Q' (.ref p2) G2) → tR σ H1 Q')
    (next : ∀ G', LamX.ExtN G G' → LamX.Tabs Tb G' → Q false G') : tTest (tOp (rNeD K) (LamX.tLam Tb (TTr c) t) tR) σ G Q := by
  refine ⟨hT, fun H1 eN T1 => raise _ H1 _ eN T1 fun v H2 s2 od dd H' s' hd => ⟨dd, v, e, w, hw, rfl, hd, od.same s', fun p hp => ?_⟩⟩
  have s3 := s2.trans s'
  refine right _ _ (eN.trans (LamX.ExtN.of (s3.trans (same_up hp)))) fun p2 G2 s4 h2 => ?_
  have sA := (s3.trans (same_up (o := outL w e) hp)).trans s4
  exact ne_lists (Fo.word hw) sm (s4 _ _ upd_same) h2 ⟨_, rfl, next G2 (eN.trans (LamX.ExtN.of sA)) (T1.ext sA)⟩
/-- two told beside each other -/
theorem ne_tried {K : PySem.W.Frag} {Tb : TbL} {c : Fo} {C : Addr} {t : XK → TE} {tR : TE} {v : V} {e : PyData} {w : Str} {σ : L2.St} {G : Hp} {Q : Bool → Hp → Prop} (hw : c.is_ w (.ref C)) (hT : LamX.Tabs Tb G)
    (raise : ∀ (E : XK) (H1 : Hp) (Q' : VK), LamX.ExtN G H1 → LamX.Tabs Tb H1 → Rais C v H1 E → t E σ H1 Q') (od : ∀ H1, LamX.ExtN G H1 → OdV H1 v e)
    (right : ∀ (H1 : Hp) (Q' : VK), LamX.ExtN G H1 → (∀ p2 G2, Same H1 G2 → G2 p2 = some (outL w e) → Q' (.ref p2) G2) → tR σ H1 Q')
    (next : ∀ G', LamX.ExtN G G' → LamX.Tabs Tb G' → Q false G') : tTest (tOp (rNeD K) (LamX.tLam Tb (TTr c) t) tR) σ G Q := by
  refine ⟨hT, fun H1 eN T1 => raise _ H1 _ eN T1 fun dd H' s' hd => ⟨dd, v, e, w, hw, rfl, hd, (od H1 eN).same s', fun p hp => ?_⟩⟩
  refine right _ _ (eN.trans (LamX.ExtN.of (s'.trans (same_up hp)))) fun p2 G2 s2 h2 => ?_
  have sA := (s'.trans (same_up (o := outL w e) hp)).trans s2
  exact ne_lists (Fo.word hw) (od H1 eN).1 (s2 _ _ upd_same) h2 ⟨_, rfl, next G2 (eN.trans (LamX.ExtN.of sA)) (T1.ext sA)⟩
theorem eq_tried {K : PySem.W.Frag} {Tb : TbL} {c : Fo} {C : Addr} {t : XK → TE} {tR : TE} {v : V} {e : PyData} {w : Str} {σ : L2.St} {G : Hp} {Q : VK} (hw : c.is_ w (.ref C)) (hT : LamX.Tabs Tb G)
    (raise : ∀ (E : XK) (H1 : Hp) (Q' : VK), LamX.ExtN G H1 → LamX.Tabs Tb H1 → Rais C v H1 E → t E σ H1 Q') (od : ∀ H1, LamX.ExtN G H1 → OdV H1 v e)
    (right : ∀ (H1 : Hp) (Q' : VK), LamX.ExtN G H1 → (∀ p2 G2, Same H1 G2 → G2 p2 = some (outL w e) → Q' (.ref p2) G2) → tR σ H1 Q')
    (next : ∀ G', LamX.ExtN G G' → LamX.Tabs Tb G' → Q (.bl true) G') : tOp (rEqD K) (LamX.tLam Tb (TTr c) t) tR σ G Q := by
  refine ⟨hT, fun H1 eN T1 => raise _ H1 _ eN T1 fun dd H' s' hd => ⟨dd, v, e, w, hw, rfl, hd, (od H1 eN).same s', fun p hp => ?_⟩⟩
  refine right _ _ (eN.trans (LamX.ExtN.of (s'.trans (same_up hp)))) fun p2 G2 s2 h2 => ?_
  have sA := (s'.trans (same_up (o := outL w e) hp)).trans s2
  exact eq_lists (Fo.word hw) (od H1 eN).1 (s2 _ _ upd_same) h2 (next G2 (eN.trans (LamX.ExtN.of sA)) (T1.ext sA))
def uOL (R : List AU) : List OL := R.map fun r => some [.int r.2.1, .int r.2.2]
theorem uOL_len (R : List AU) : (uOL R).length = R.length := List.length_map _
theorem tzl_ups {K : PySem.W.Frag} {H : Hp} : ∀ {R : List AU}, (∀ r ∈ R, H r.1 = some (.tup [.int r.2.1, .int r.2.2])) → TzL K H (urefs R) (uOL R)
  | [], _ => .nil
  | r :: R, h => .cons (.tup (h r List.mem_cons_self) (.cons (.int _) (.cons (.int _) .nil)) (by show 2 ≤ 100; decide)) (tzl_ups fun q hq => h q (List.mem_cons_of_mem _ hq))
theorem wz_ups {K : PySem.W.Frag} {H : Hp} {a : Addr} {R : List AU} (h : UpsB H a R) : Wz K H (.ref a) (some (uOL R)) := by
  rcases h.1 with h1 | h1
  · exact .lst h1 (tzl_ups h.2)
  · exact .tup h1 (tzl_ups h.2)
theorem cha_ok {x : Rz} (h : Cok x) : chaT (some [.int x.1, .int x.2]) = true := by
  obtain ⟨a, b, c, d, e⟩ := h
  show (((true && (true && (decide (0 < x.2) && decide (((Nat.gcd x.1.natAbs x.2.natAbs : Nat) : Int) = 1)))) && (decide (x.1 ≤ 20) && decide (x.2 ≤ 20))) && (decide (0 ≤ x.1) && decide (x.1 ≤ x.2))) = true
  rw [e, decide_eq_true (by omega : 0 < x.2), decide_eq_true (by omega : x.1 ≤ 20), decide_eq_true (by omega : x.2 ≤ 20), decide_eq_true a, decide_eq_true b]
  rfl
theorem tz_share {K : PySem.W.Frag} {H : Hp} {a : Addr} {s : Rz} (h : Share H a s) : Tz K H (.ref a) (some [.int s.1, .int s.2]) := .tup h (.cons (.int _) (.cons (.int _) .nil)) (by show 2 ≤ 100; decide)
theorem all_ups {R : List AU} (uo : Upok (R.map (·.2))) : (uOL R).all chaT = true := by
  rw [List.all_eq_true]
  intro o ho
  obtain ⟨r, hr, rfl⟩ := List.mem_map.mp ho
  exact cha_ok (uo.2 r.2 (List.mem_map.mpr ⟨r, hr, rfl⟩))
theorem okW_ups {R : List AU} (uo : Upok (R.map (·.2))) (l1 : 1 ≤ R.length) (l4 : R.length ≤ 4) : okW (some (uOL R)) = true := by
  show ((uOL R).all chaT && (decide (1 ≤ (uOL R).length) && decide ((uOL R).length ≤ 4))) = true
  rw [all_ups uo, uOL_len, decide_eq_true l1, decide_eq_true l4]
  rfl
theorem ckh_ok {K : PySem.W.Frag} {CH : Addr} {H : Hp} {E : XK} {G : Prop} {a : Addr} {s : Rz} (h : Share H a s) (c : Cok s) (g : G) : CkH K CH (.ref a) H E G := ⟨_, tz_share h, (fun no => by
  rw [cha_ok c] at no
  cases no), fun _ => g⟩
theorem ckh_bad {K : PySem.W.Frag} {CH : Addr} {H : Hp} {E : XK} {G : Prop} {v : V} {o : OL} (h : Tz K H v o) (c : chaT o = false) (r : Rais CH v H E) : CkH K CH v H E G := ⟨_, h, (fun _ => r), fun ok => by
  rw [c] at ok
  cases ok⟩
theorem cku_ok {CC : Addr} {H : Hp} {E : XK} {G : Prop} {n : Nat} {u : Int} (u0 : 0 ≤ u) (u1 : u ≤ n) (g : G) : CkU CC n (.int u) H E G := ⟨.int u, .fl (.int u), (fun no => by
  rw [within_in u0 u1] at no
  cases no), fun _ => g⟩
theorem cku_hi {CC : Addr} {H : Hp} {E : XK} {G : Prop} {n : Nat} {u : Int} (u1 : n < u) (r : Rais CC (.int u) H E) : CkU CC n (.int u) H E G := ⟨.int u, .fl (.int u), (fun _ => r), fun ok => by
  rw [within_hi u1] at ok
  cases ok⟩
theorem el_pair {t b : Int} (t0 : 0 ≤ t) (t1 : t ≤ 6) (b0 : 0 ≤ b) (b1 : b ≤ 6) : PyData.tuple [.int t, .int b] ∈ elD := by
  unfold elD
  refine List.mem_append_left _ (List.mem_flatMap.mpr ⟨b.toNat, List.mem_range.mpr (by omega), List.mem_map.mpr ⟨t.toNat, List.mem_range.mpr (by omega), ?_⟩⟩)
  rw [show ((t.toNat : Nat) : Int) = t by omega, show ((b.toNat : Nat) : Int) = b by omega]
/-- lots, as data -/
def cD (ls : List Z) : PyData := .list (ls.map fun l => .tuple (l.map .int))
theorem dwl_Z {H : Hp} : ∀ l : Z, DwL H (l.map V.int) (l.map .int)
  | [] => .nil
  | i :: l => .cons (.fl (.int i)) (dwl_Z l)
theorem dwl_lots {H : Hp} : ∀ {L : List AT}, (∀ q ∈ L, H q.1 = some (.tup (q.2.map V.int))) → DwL H (refs L) ((L.map (·.2)).map fun l => .tuple (l.map .int))
  | [], _ => .nil
  | q :: L, h => .cons (.tup (h q List.mem_cons_self) (dwl_Z _)) (dwl_lots fun r hr => h r (List.mem_cons_of_mem _ hr))
theorem dw_lots {H : Hp} {p : Addr} {L : List AT} (h : Lots H p L) : Dw H (.ref p) (cD (L.map (·.2))) := .lst h.1 (dwl_lots h.2)
theorem sm_counts {f : Z → Int} {n u : Int} {k : Nat} (n5 : n ≤ 5) (k5 : k ≤ 5) : SmD (cD (topC f (cnts n u k))) := by
  refine .inr (.inr ⟨_, rfl, ?_, fun x hx => ?_⟩)
  · rw [List.length_map]
    have h1 := topC_len f (cnts n u k)
    have h2 := cnts_len n u k
    omega
  · obtain ⟨l, hl, rfl⟩ := List.mem_map.mp hx
    obtain ⟨r, w, rfl, a, b, c, d⟩ := cnts_mem (List.mem_filter.mp hl).1
    exact el_pair (by omega) (by omega) (by omega) (by omega)
/-- best_votes' answer, as data -/
def bvD (b : Int) : Option Cd → PyData
  | none => .none
  | some c => .tuple [.tuple (c.1.map .int), .int c.2.1, .tuple [.int (lowZ c.2.2 b).1, .int (lowZ c.2.2 b).2]]
theorem bv_dw {H : Hp} {v : V} {b : Int} : ∀ {c : Option Cd}, BvIs H v b c → Dw H v (bvD b c)
  | none, h => by
    have h : v = .non := h
    subst h
    exact .fl .non
  | some c, h => by
    obtain ⟨p, a, q, rfl, h1, h2, h3⟩ := h
    exact .tup h1 (.cons (.tup h2 (dwl_Z _)) (.cons (.fl (.int _)) (.cons (.tup h3 (.cons (.fl (.int _)) (.cons (.fl (.int _)) .nil))) .nil)))
theorem int_fit {i : Int} (a : 0 ≤ i) (b : i ≤ 50000) : i.natAbs.log2 < 1920 ∧ (PyData.shown (.int i)).length ≤ 13 ∧ (PyData.int i).weight ≤ 18 := by
  have l : i.natAbs.log2 ≤ 15 := by
    by_cases h : i.natAbs = 0
    · rw [h]
      decide
    · have := (Nat.log2_lt h (k := 16)).mpr (by omega)
      omega
  refine ⟨by omega, PyData.shown_int_le (by omega), ?_⟩
  simp only [PyData.weight]
  split <;> omega
theorem ints_fit : ∀ {l : Z}, (∀ i ∈ l, 0 ≤ i ∧ i ≤ 50000) → PyData.showableAll (l.map .int) = true ∧ PyData.depthAll (l.map .int) = 0 ∧ PyData.leavesShortAll 13 (l.map .int) = true ∧ PyData.weightAll (l.map .int) ≤ 19 * l.length
  | [], _ => by
    refine ⟨by simp only [List.map_nil, PyData.showableAll], by simp only [List.map_nil, PyData.depthAll], by simp only [List.map_nil, PyData.leavesShortAll], by simp [PyData.weightAll]⟩
  | i :: l, h => by
    obtain ⟨a1, a2, a3⟩ := int_fit (h i List.mem_cons_self).1 (h i List.mem_cons_self).2
    obtain ⟨b1, b2, b3, b4⟩ := ints_fit fun j hj => h j (List.mem_cons_of_mem _ hj)
    refine ⟨?_, ?_, ?_, ?_⟩
    · simp [List.map_cons, PyData.showableAll, PyData.showable, b1, a1]
    · simp [List.map_cons, PyData.depthAll, PyData.depth, b2]
    · simp [List.map_cons, PyData.leavesShortAll, PyData.leavesShort, b3, a2]
    · simp only [List.map_cons, PyData.weightAll, List.length_cons]
      omega
theorem bvD_shw {l : Z} {nd a b : Int} (l5 : l.length ≤ 5) (hl : ∀ i ∈ l, 0 ≤ i ∧ i ≤ 50000) (n0 : 0 ≤ nd) (n1 : nd ≤ 50000) (a0 : 0 ≤ a) (a1 : a ≤ 50000) (b0 : 0 ≤ b) (b1 : b ≤ 50000) : Shw (.tuple [.tuple (l.map .int), .int nd, .tuple [.int a, .int b]]) := by
  obtain ⟨p1, p2, p3, p4⟩ := ints_fit hl
  obtain ⟨q1, q2, q3⟩ := int_fit n0 n1
  obtain ⟨r1, r2, r3⟩ := int_fit a0 a1
  obtain ⟨s1, s2, s3⟩ := int_fit b0 b1
  have sh : (PyData.tuple [.tuple (l.map .int), .int nd, .tuple [.int a, .int b]]).showable = true := by simp [PyData.showable, PyData.showableAll, p1, q1, r1, s1]
  have ls : (PyData.tuple [.tuple (l.map .int), .int nd, .tuple [.int a, .int b]]).leavesShort 13 = true := by simp [PyData.leavesShort, PyData.leavesShortAll, p3, q2, r2, s2]
  refine ⟨sh, by simp [PyData.depth, PyData.depthAll, p2], PyData.shown_fits (B := 13) (by decide) (by decide) ls ?_⟩
  have e : (PyData.tuple [.tuple (l.map .int), .int nd, .tuple [.int a, .int b]]).weight = (PyData.weightAll (l.map .int) + 1) + ((PyData.int nd).weight + 1 + (((PyData.int a).weight + 1 + ((PyData.int b).weight + 1)) + 1)) := by
    simp only [PyData.weight, PyData.weightAll, Nat.add_zero]
  rw [e]
  omega
theorem low_b {a b : Int} (a0 : 0 ≤ a) (a1 : a ≤ 50000) (b0 : 0 < b) (b1 : b ≤ 50000) : 0 ≤ (lowZ a b).1 ∧ (lowZ a b).1 ≤ 50000 ∧ 0 ≤ (lowZ a b).2 ∧ (lowZ a b).2 ≤ 50000 := by
  have g0 := gcd_pos (a := a) b0
  unfold lowZ
  refine ⟨Int.ediv_nonneg a0 (by omega), Int.le_trans (Int.ediv_le_self _ a0) a1, Int.ediv_nonneg (by omega) (by omega), Int.le_trans (Int.ediv_le_self _ (by omega)) b1⟩
theorem sum_le3 : ∀ {v : Z}, (∀ x ∈ v, 0 ≤ x ∧ x ≤ 3) → 0 ≤ v.sum ∧ v.sum ≤ 3 * (v.length : Int)
  | [], _ => by decide
  | x :: v, h => by
    have h1 := h x List.mem_cons_self
    have h2 := sum_le3 fun y hy => h y (List.mem_cons_of_mem _ hy)
    rw [List.sum_cons, List.length_cons]; skip
    omega
theorem bv_shw {U : Ups} {s : Rz} {u n : Nat} (uo : Upok U) (so : Shok s) (lU : U.length = n) (n4 : n ≤ 4) : Shw (bvD (s.2 * botN U n) (bestU U s u n)) := by
  cases hc : bestU U s u n with
  | none => exact (smd_ok (d := .none) (.inl (by simp [flD]))).1
  | some c =>
    obtain ⟨v, hv, hm⟩ := List.mem_flatMap.mp (bestL_mem hc)
    obtain ⟨nd, hn, rfl⟩ := List.mem_map.mp hm
    obtain ⟨i, hi, rfl⟩ := List.mem_map.mp hn
    rw [List.mem_range] at hi
    obtain ⟨vl, vb⟩ := votesL_mem hv
    have fb := fullS_b (fun x hx => (vb x hx).1) u
    have sb := sum_le3 vb
    have wb := wV_b uo so u v (v.sum - fullS v u + 1 + (i : Int))
    have bb := botN_b uo n (by omega)
    have p6 := pow4 (n := n) (by omega)
    obtain ⟨s0_, s1_, s2_, s3_⟩ := so
    have m1 : 1 ≤ s.2 * botN U n := by
      have := Int.mul_le_mul s2_ bb.1 (by omega) (by omega)
      omega
    have m2 : s.2 * botN U n ≤ 6 * 7776 := Int.mul_le_mul s3_ (by omega) (by omega) (by omega)
    rw [vl] at wb
    have lb := low_b (a := wV U s u v (v.sum - fullS v u + 1 + (i : Int))) (b := s.2 * botN U n) wb.1 (by omega) (by omega) (by omega)
    refine bvD_shw (l := v) (nd := v.sum - fullS v u + 1 + (i : Int)) (a := (lowZ (wV U s u v (v.sum - fullS v u + 1 + (i : Int))) (s.2 * botN U n)).1) (b := (lowZ (wV U s u v (v.sum - fullS v u + 1 + (i : Int))) (s.2 * botN U n)).2) (by omega) (fun x hx => ?_) (by omega) (by omega) lb.1 lb.2.1 lb.2.2.1 lb.2.2.2
    have := vb x hx
    omega
/-- an odd chance -/
inductive Oz (z : Addr) (H : Hp) : V → PyData → OL → Prop
  | non : Oz z H .non .none none
  | tup {b : Addr} {x y : V} {d e : PyData} (h : H b = some (.tup [x, y])) (f : Fl x d) (g : Fl y e) : Oz z H (.ref b) (.tuple [d, e]) (some [d, e])
  | lst {b : Addr} {x y : V} {d e : PyData} (h : H b = some (.lst [x, y])) (n : b ≠ z) (f : Fl x d) (g : Fl y e) : Oz z H (.ref b) (.list [d, e]) none
theorem Oz.mono {z : Addr} {H G : Hp} (s1 : ∀ b xs, H b = some (.tup xs) → G b = some (.tup xs)) (s2 : ∀ b xs, b ≠ z → H b = some (.lst xs) → G b = some (.lst xs)) {v : V} {d : PyData} {o : OL} (h : Oz z H v d o) : Oz z G v d o := by
  cases h with
  | non => exact .non
  | tup h f g => exact .tup (s1 _ _ h) f g
  | lst h n f g => exact .lst (s2 _ _ n h) n f g
theorem Oz.ext {z : Addr} {H G : Hp} {v : V} {d : PyData} {o : OL} (h : Oz z H v d o) (e : LamX.ExtN H G) : Oz z G v d o := h.mono (fun _ _ x => ext_tp e x) fun _ _ _ x => ext_at e x
theorem Oz.same {z : Addr} {H G : Hp} {v : V} {d : PyData} {o : OL} (h : Oz z H v d o) (e : Same H G) : Oz z G v d o := h.ext (LamX.ExtN.of e)
theorem Oz.but {z : Addr} {H G : Hp} {v : V} {d : PyData} {o : OL} (h : Oz z H v d o) (s : Src z H) (b : But z H G) : Oz z G v d o := h.mono (fun _ _ x => tup_z x s b) fun c xs n x => b c _ n trivial x
theorem Oz.tz {K : PySem.W.Frag} {z : Addr} {H : Hp} {v : V} {d : PyData} {o : OL} (h : Oz z H v d o) : Tz K H v o := by
  cases h with
  | non => exact .no (fun _ _ => .base .non) (kit_ty (show kitB "NoneType" "tuple" = some false from by decide +kernel))
  | tup h f g => exact .tup h (.cons f (.cons g .nil)) (by show 2 ≤ 100; decide)
  | lst h n f g => exact .no (fun G s => .base (.lst (s _ _ h))) (kit_ty (show kitB "list" "tuple" = some false from by decide +kernel))
theorem Oz.dw {z : Addr} {H : Hp} {v : V} {d : PyData} {o : OL} (h : Oz z H v d o) : Dw H v d := by
  cases h with
  | non => exact .fl .non
  | tup h f g => exact .tup h (.cons (.fl f) (.cons (.fl g) .nil))
  | lst h n f g => exact .lst h (.cons (.fl f) (.cons (.fl g) .nil))
/-- refused as a chance -/
def Bad1 (z : Addr) (H : Hp) (x : V) : Prop := ∃ e o, Oz z H x e o ∧ SmD e ∧ chaT o = false
theorem sm_int {i : Int} (a : 0 ≤ i) (b : i ≤ 10) : SmD (.int i) := .inl (List.mem_append_right _ (List.mem_map.mpr ⟨i.toNat, List.mem_range.mpr (by omega), by rw [show ((i.toNat : Nat) : Int) = i by omega]⟩))
end Pl

namespace Pl
open L2 PySem PySem.Spec PyProof.Rows RZ
structure DfG (P : Program) (w : World) (K : PySem.W.Frag) (mg : Str → Option Value) (base : Heap) (k : Nat) (x : Str) (ps : List Str) (sp : Sp) : Prop where
  ex : ∃ (f : Addr) (fd : FuncData), FnG P w K mg base k f fd ps sp ∧ mg x = some (.ref f) ∧ PySem.W.keepIn K (.ref f) = true ∧ Binds K fd ps []
/-- one of those known by hand -/
structure Kn where
  u : Int
  s : Rz
  a : Int
  b : Int
  c : Int
  d : Int
  nd : Int
  lo : Rz
def Row (H : Hp) (p : Addr) (k : Kn) : Prop := ∃ s d v l, H p = some (.lst [.int k.u, .ref s, .ref d]) ∧ Share H s k.s ∧ H d = some (.tup [.ref v, .int k.nd, .ref l]) ∧ H v = some (.tup [.int k.a, .int k.b, .int k.c, .int k.d]) ∧ H l = some (.tup [.int k.lo.1, .int k.lo.2])
theorem Row.mono {z : Addr} {H G : Hp} {p : Addr} {k : Kn} (s1 : ∀ b xs, H b = some (.tup xs) → G b = some (.tup xs)) (s2 : ∀ b xs, b ≠ z → H b = some (.lst xs) → G b = some (.lst xs)) (n : p ≠ z) (h : Row H p k) : Row G p k := by
  obtain ⟨s, d, v, l, h0, h1, h2, h3, h4⟩ := h
  exact ⟨s, d, v, l, s2 _ _ n h0, s1 _ _ h1, s1 _ _ h2, s1 _ _ h3, s1 _ _ h4⟩
theorem Row.same {H G : Hp} {p : Addr} {k : Kn} (h : Row H p k) (e : Same H G) : Row G p k := by
  obtain ⟨s, d, v, l, h0, h1, h2, h3, h4⟩ := h
  exact ⟨s, d, v, l, e _ _ h0, e _ _ h1, e _ _ h2, e _ _ h3, e _ _ h4⟩
theorem Row.but {z : Addr} {H G : Hp} {p : Addr} {k : Kn} (h : Row H p k) (n : p ≠ z) (s : Src z H) (b : But z H G) : Row G p k := h.mono (fun _ _ x => tup_z x s b) (fun c xs n x => b c _ n trivial x) n
abbrev rowT (k : Kn) : TE := tLst (tCons (tC (.int k.u)) (tCons (tTup (tCons (tC (.int k.s.1)) (tCons (tC (.int k.s.2)) tNil))) (tCons (tTup (tCons (tTup (tCons (tC (.int k.a)) (tCons (tC (.int k.b)) (tCons (tC (.int k.c)) (tCons (tC (.int k.d)) tNil))))) (tCons (tC (.int k.nd)) (tCons (tTup (tCons (tC (.int k.lo.1)) (tCons (tC (.int k.lo.2)) tNil))) tNil)))) tNil)))
theorem row_read {k : Kn} {σ : L2.St} {H : Hp} {Q : VK} (q : ∀ p G, H p = none → Same H G → Row G p k → Q (.ref p) G) : rowT k σ H Q := by
  refine ⟨by show 2 ≤ sizeLine; decide, fun s hs => ?_⟩
  have s1 := same_up (o := .tup [V.int k.s.1, .int k.s.2]) hs
  have f1 : upd H s (.tup [V.int k.s.1, .int k.s.2]) s = some (.tup [V.int k.s.1, .int k.s.2]) := upd_same
  generalize upd H s (.tup [V.int k.s.1, .int k.s.2]) = H1 at s1 f1 ⊢
  refine ⟨by show 4 ≤ sizeLine; decide, fun v hv => ?_⟩
  have s2 := same_up (o := .tup [V.int k.a, .int k.b, .int k.c, .int k.d]) hv
  have f2 : upd H1 v (.tup [V.int k.a, .int k.b, .int k.c, .int k.d]) v = some (.tup [V.int k.a, .int k.b, .int k.c, .int k.d]) := upd_same
  generalize upd H1 v (.tup [V.int k.a, .int k.b, .int k.c, .int k.d]) = H2 at s2 f2 ⊢
  refine ⟨by show 2 ≤ sizeLine; decide, fun l hl => ?_⟩
  have s3 := same_up (o := .tup [V.int k.lo.1, .int k.lo.2]) hl
  have f3 : upd H2 l (.tup [V.int k.lo.1, .int k.lo.2]) l = some (.tup [V.int k.lo.1, .int k.lo.2]) := upd_same
  generalize upd H2 l (.tup [V.int k.lo.1, .int k.lo.2]) = H3 at s3 f3 ⊢
  refine ⟨by show 3 ≤ sizeLine; decide, fun d hd => ?_⟩
  have s4 := same_up (o := .tup [V.ref v, .int k.nd, .ref l]) hd
  have f4 : upd H3 d (.tup [V.ref v, .int k.nd, .ref l]) d = some (.tup [V.ref v, .int k.nd, .ref l]) := upd_same
  generalize upd H3 d (.tup [V.ref v, .int k.nd, .ref l]) = H4 at s4 f4 ⊢
  refine ⟨by show 3 ≤ sizeLine; decide, fun p hp => ?_⟩
  have s5 := same_up (o := .lst [V.int k.u, .ref s, .ref d]) hp
  have sA := ((s1.trans s2).trans s3).trans s4
  have hn : H p = none := by
    cases e : H p with
    | none => rfl
    | some o =>
      have := sA _ _ e
      rw [hp] at this
      cases this
  exact q p _ hn (sA.trans s5) ⟨s, d, v, l, upd_same, (((s2.trans s3).trans s4).trans s5) _ _ f1, s5 _ _ f4, ((s3.trans s4).trans s5) _ _ f2, (s4.trans s5) _ _ f3⟩
theorem seq_at {te : TE} {g : TG} {u : TS} {D : Ends} {σ : L2.St} {H : Hp} (h : te σ H fun x H1 => g x σ H1 (u D)) : tSeq (tAsg te g) u D σ H := h
theorem rows_read {k j : Kn} {σ : L2.St} {H : Hp} {Q : VK} (q : rowT k σ H fun v H1 => rowT j σ H1 fun u H2 => 2 ≤ sizeLine ∧ ∀ p, H2 p = none → Q (.ref p) (upd H2 p (.lst [v, u]))) : tLst (tCons (rowT k) (tCons (rowT j) tNil)) σ H Q := q
def k0 : Kn := ⟨0, (1, 1), 1, 1, 1, 1, 4, (15, 16)⟩
def k1 : Kn := ⟨0, (0, 1), 1, 1, 1, 1, 1, (15, 16)⟩
def k2 : Kn := ⟨1, (1, 1), 1, 1, 1, 1, 4, (11, 16)⟩
def k3 : Kn := ⟨0, (1, 2), 0, 0, 0, 1, 1, (1, 2)⟩
def knD (k : Kn) : PyData := .tuple [.tuple [.int k.a, .int k.b, .int k.c, .int k.d], .int k.nd, .tuple [.int k.lo.1, .int k.lo.2]]
def Kok (k : Kn) : Prop := Cok k.s ∧ 0 ≤ k.u ∧ k.u ≤ 4 ∧ bvD (k.s.2 * botN halves 4) (bestU halves k.s k.u.toNat 4) = knD k
theorem kok0 : Kok k0 := ⟨⟨by decide, by decide, by decide, by decide, by decide⟩, by decide, by decide, by
  show bvD (1 * botN halves 4) (bestU halves (1, 1) 0 4) = _
  rw [four0, half_bot]
  show PyData.tuple [_, _, .tuple [.int (lowZ 15 16).1, .int (lowZ 15 16).2]] = _
  rw [low0]
  rfl⟩
theorem kok1 : Kok k1 := ⟨⟨by decide, by decide, by decide, by decide, by decide⟩, by decide, by decide, by
  show bvD (1 * botN halves 4) (bestU halves (0, 1) 0 4) = _
  rw [four1, half_bot]
  show PyData.tuple [_, _, .tuple [.int (lowZ 15 16).1, .int (lowZ 15 16).2]] = _
  rw [low0]
  rfl⟩
theorem kok2 : Kok k2 := ⟨⟨by decide, by decide, by decide, by decide, by decide⟩, by decide, by decide, by
  show bvD (1 * botN halves 4) (bestU halves (1, 1) 1 4) = _
  rw [four2, half_bot]
  show PyData.tuple [_, _, .tuple [.int (lowZ 11 16).1, .int (lowZ 11 16).2]] = _
  rw [low2]
  rfl⟩
theorem kok3 : Kok k3 := ⟨⟨by decide, by decide, by decide, by decide, by decide⟩, by decide, by decide, by
  show bvD (2 * botN halves 4) (bestU halves (1, 2) 0 4) = _
  rw [four3, half_bot]
  show PyData.tuple [_, _, .tuple [.int (lowZ 16 32).1, .int (lowZ 16 32).2]] = _
  rw [low3]
  rfl⟩
theorem Row.dw {H : Hp} {k : Kn} {d v l : Addr} (h2 : H d = some (.tup [.ref v, .int k.nd, .ref l])) (h3 : H v = some (.tup [.int k.a, .int k.b, .int k.c, .int k.d])) (h4 : H l = some (.tup [.int k.lo.1, .int k.lo.2])) : Dw H (.ref d) (knD k) :=
  .tup h2 (.cons (.tup h3 (.cons (.fl (.int _)) (.cons (.fl (.int _)) (.cons (.fl (.int _)) (.cons (.fl (.int _)) .nil))))) (.cons (.fl (.int _)) (.cons (.tup h4 (.cons (.fl (.int _)) (.cons (.fl (.int _)) .nil))) .nil)))
def spFour (Tb : TbL) : Sp := fun vs H Q _ => ∃ (z : Addr), vs = [.ref z] ∧ Src z H ∧ LamX.Tabs Tb H ∧ ∀ G1 G, But z H G1 → Src z G1 → LamX.ExtN G1 G → LamX.Tabs Tb G → Q (.bl true) G
abbrev nFo : List Str := ["_law_source", "_law_known", "_law_unruly_here", "_law_share_here", "_law_due"]
section
variable {P : Program} {w : World} {K : PySem.W.Frag} {mg : Str → Option Value} {base : Heap} {Tb : TbL} {CC CH : Addr}
theorem scFour : FnScope nFo ["_law_source"] (defScope sLFour) := ⟨rfl, rfl, rfl, by decide +kernel, rfl, by decide +kernel, by decide +kernel⟩
theorem ok_four {f : Addr} {fd : FuncData} {c : Addr} (F : FunC K "_law_four_right" "_law_four_right" sLFour f c fd) (T : Cst mg) (DO : Df P w K mg base 2 "_law_one" ["_law_source", "_law_things"] spOne) (DV : DfX P w K mg base 6 "best_votes" psBV (spBestV K Tb CC CH)) : FnG P w K mg base 8 f fd ["_law_source"] (spFour Tb) := by
  obtain ⟨gO, fdO, GO, mO, kO, bO⟩ := DO.ex
  obtain ⟨gV, fdV, GV, mV, kV, bV⟩ := DV.ex
  refine okC F scFour (fun vs H Q E h => ?_) (fun A outer s H vs Q E hgd hr h => ?_)
  · obtain ⟨z, rfl, _⟩ := h
    rfl
  · obtain ⟨z, rfl, hz, hT, q⟩ := h
    have hu : (A.deeper (envOfC "_law_four_right" (defScope sLFour) s.heap.objs.size f (.ref c))).units + 64 < cLine := by
      have := hr.un
      omega
    refine ⟨_, pss_cons (ps_set (i := 1) scFour.nd rfl (Or.inl rfl) (pe_lst (pa_cons (pe_lst (pa_cons pe_int (pa_cons (pe_tup (pa_cons pe_int (pa_cons pe_int pa_nil))) (pa_cons (pe_tup (pa_cons (pe_tup (pa_cons pe_int (pa_cons pe_int (pa_cons pe_int (pa_cons pe_int pa_nil))))) (pa_cons pe_int (pa_cons (pe_tup (pa_cons pe_int (pa_cons pe_int pa_nil))) pa_nil)))) pa_nil)))) (pa_cons (pe_lst (pa_cons pe_int (pa_cons (pe_tup (pa_cons pe_int (pa_cons pe_int pa_nil))) (pa_cons (pe_tup (pa_cons (pe_tup (pa_cons pe_int (pa_cons pe_int (pa_cons pe_int (pa_cons pe_int pa_nil))))) (pa_cons pe_int (pa_cons (pe_tup (pa_cons pe_int (pa_cons pe_int pa_nil))) pa_nil)))) pa_nil)))) pa_nil))))
      (pss_cons (ps_set (i := 1) scFour.nd rfl (Or.inl rfl) (pe_op op_cat (pv 1) (pe_lst (pa_cons (pe_lst (pa_cons pe_int (pa_cons (pe_tup (pa_cons pe_int (pa_cons pe_int pa_nil))) (pa_cons (pe_tup (pa_cons (pe_tup (pa_cons pe_int (pa_cons pe_int (pa_cons pe_int (pa_cons pe_int pa_nil))))) (pa_cons pe_int (pa_cons (pe_tup (pa_cons pe_int (pa_cons pe_int pa_nil))) pa_nil)))) pa_nil)))) (pa_cons (pe_lst (pa_cons pe_int (pa_cons (pe_tup (pa_cons pe_int (pa_cons pe_int pa_nil))) (pa_cons (pe_tup (pa_cons (pe_tup (pa_cons pe_int (pa_cons pe_int (pa_cons pe_int (pa_cons pe_int pa_nil))))) (pa_cons pe_int (pa_cons (pe_tup (pa_cons pe_int (pa_cons pe_int pa_nil))) pa_nil)))) pa_nil)))) pa_nil)))))
      (pss_cons (ps_asg (pe_call GO (hr.mono (by decide)) (by rfl) mO kO bO .nil pass0 (pa_cons (pv 0) (pa_cons (pv 1) pa_nil))) (pg_lst rfl (pgs_cons (pg_name (i := 2) scFour.nd rfl (Or.inl rfl)) (pgs_cons (pg_name (i := 3) scFour.nd rfl (Or.inl rfl)) (pgs_cons (pg_name (i := 4) scFour.nd rfl (Or.inl rfl)) pgs_nil)))))
      (pss_one (ps_ret (pe_cmpR op_eq (pe_callB (call_reprW hgd hu) (by rfl) T.rpr (by decide +kernel) (pa_cons (pe_call (E := fun _ _ _ => False) GV (hr.mono (by decide)) (by rfl) mV kV bV .nil (passes_call takes0 fun _ _ _ _ h => h) (pa_cons (pe_op (show OpR _ (binaryOp .Mult) rRep from op_rep) (pe_lst (pa_cons (pe_tup (pa_cons pe_int (pa_cons pe_int pa_nil))) pa_nil)) pe_int) (pa_cons (pv 2) (pa_cons (pv 3) pa_nil)))) pa_nil)) (pe_callB (call_reprW hgd hu) (by rfl) T.rpr (by decide +kernel) (pa_cons (pv 4) pa_nil)) (nomark _)))))), ?_⟩
    refine seq_at ?_
    refine rows_read (k := k0) (j := k1) ?_
    refine row_read (k := k0) fun p0 H0 n0 s0 r0 => ?_
    refine row_read (k := k1) fun p1 H1 n1 s1 r1 => ?_
    refine ⟨by show 2 ≤ sizeLine; decide, fun a1 ha1 => ?_⟩
    have s2 := same_up (o := .lst [V.ref p0, .ref p1]) ha1
    have f2 : upd H1 a1 (.lst [V.ref p0, .ref p1]) a1 = some (.lst [V.ref p0, .ref p1]) := upd_same
    generalize upd H1 a1 (.lst [V.ref p0, .ref p1]) = H2 at s2 f2 ⊢
    refine ⟨_, rfl, ?_⟩
    show tLst _ _ _ _
    refine rows_read (k := k2) (j := k3) ?_
    refine row_read (k := k2) fun p2 H3 n2 s3 r2 => ?_
    refine row_read (k := k3) fun p3 H4 n3 s4 r3 => ?_
    refine ⟨by show 2 ≤ sizeLine; decide, fun a2 ha2 => ?_⟩
    have s5 := same_up (o := .lst [V.ref p2, .ref p3]) ha2
    have f5 : upd H4 a2 (.lst [V.ref p2, .ref p3]) a2 = some (.lst [V.ref p2, .ref p3]) := upd_same
    generalize upd H4 a2 (.lst [V.ref p2, .ref p3]) = H5 at s5 f5 ⊢
    refine ⟨a1, a2, _, _, rfl, rfl, ((s3.trans s4).trans s5) _ _ f2, f5, by show 2 + 2 ≤ sizeLine; decide, fun a3 ha3 => ?_⟩
    have s6 := same_up (o := .lst ([V.ref p0, .ref p1] ++ [.ref p2, .ref p3])) ha3
    have f6 : upd H5 a3 (.lst ([V.ref p0, .ref p1] ++ [.ref p2, .ref p3])) a3 = some (.lst ([V.ref p0, .ref p1] ++ [.ref p2, .ref p3])) := upd_same
    generalize upd H5 a3 (.lst ([V.ref p0, .ref p1] ++ [.ref p2, .ref p3])) = H6 at s6 f6 ⊢
    have z0 : p0 ≠ z := hz.ne n0
    have z1 : p1 ≠ z := (hz.same s0).ne n1
    have z2 : p2 ≠ z := (hz.same ((s0.trans s1).trans s2)).ne n2
    have z3 : p3 ≠ z := (hz.same (((s0.trans s1).trans s2).trans s3)).ne n3
    have za : a3 ≠ z := (hz.same (((((s0.trans s1).trans s2).trans s3).trans s4).trans s5)).ne ha3
    have s06 := (((((s0.trans s1).trans s2).trans s3).trans s4).trans s5).trans s6
    have hz6 := hz.same s06
    have all : ∀ x ∈ [V.ref p0, .ref p1] ++ [.ref p2, .ref p3], ∃ p k, x = .ref p ∧ p ≠ z ∧ Row H6 p k ∧ Kok k := by
      intro x hx
      simp only [List.cons_append, List.nil_append, List.mem_cons, List.not_mem_nil, or_false] at hx
      rcases hx with rfl | rfl | rfl | rfl
      · exact ⟨p0, k0, rfl, z0, r0.same (((((s1.trans s2).trans s3).trans s4).trans s5).trans s6), kok0⟩
      · exact ⟨p1, k1, rfl, z1, r1.same ((((s2.trans s3).trans s4).trans s5).trans s6), kok1⟩
      · exact ⟨p2, k2, rfl, z2, r2.same ((s4.trans s5).trans s6), kok2⟩
      · exact ⟨p3, k3, rfl, z3, r3.same (s5.trans s6), kok3⟩
    refine ⟨_, rfl, _, rfl, z, a3, _, rfl, hz6, f6, za, by show 0 < 4; decide, by show 4 ≤ 100; decide, fun i x H7 hx b7 z7 => ?_⟩
    obtain ⟨p, k, rfl, pz, hr7, ⟨cs, u0, u4, eD⟩⟩ := all x (List.mem_of_getElem? hx)
    clear all
    obtain ⟨sa, d, vv, lo, h0, h1, h2, h3, h4⟩ := hr7.but pz hz6 b7
    refine ⟨p, _, rfl, SqL.of h0, rfl, _, _, rfl, _, _, rfl, _, _, rfl, rfl, ?_⟩
    have t7 := tabs_but b7 hz6 (hT.ext s06)
    have b07 : But z H H7 := fun b o n t e => b7 b o n t (s06 b o e)
    refine ⟨by show 2 ≤ sizeLine; decide, fun m1 hm1 => ?_⟩
    have s8 := same_up (o := .tup [V.int 1, .int 2]) hm1
    have f8 : upd H7 m1 (.tup [V.int 1, .int 2]) m1 = some (.tup [V.int 1, .int 2]) := upd_same
    generalize upd H7 m1 (.tup [V.int 1, .int 2]) = H8 at s8 f8 ⊢
    refine ⟨by show 1 ≤ sizeLine; decide, fun m2 hm2 => ?_⟩
    have s9 := same_up (o := .lst [V.ref m1]) hm2
    have f9 : upd H8 m2 (.lst [V.ref m1]) m2 = some (.lst [V.ref m1]) := upd_same
    generalize upd H8 m2 (.lst [V.ref m1]) = H9 at s9 f9 ⊢
    refine ⟨m2, 4, [.ref m1], rfl, rfl, f9, by decide, by decide, by show 1 * 4 ≤ sizeLine; decide, fun m3 hm3 => ?_⟩
    have er : (List.replicate (4 : Int).toNat [V.ref m1]).flatten = urefs (List.replicate 4 (m1, ((1 : Int), (2 : Int)))) := rfl
    rw [er]
    have s10 := same_up (o := .lst (urefs (List.replicate 4 (m1, ((1 : Int), (2 : Int)))))) hm3
    have f10 : upd H9 m3 (.lst (urefs (List.replicate 4 (m1, ((1 : Int), (2 : Int)))))) m3 = some (.lst (urefs (List.replicate 4 (m1, ((1 : Int), (2 : Int)))))) := upd_same
    generalize upd H9 m3 (.lst (urefs (List.replicate 4 (m1, ((1 : Int), (2 : Int)))))) = H10 at s10 f10 ⊢
    have s710 := (s8.trans s9).trans s10
    have t10 := t7.ext s710
    have hs10 : Share H10 sa k.s := s710 _ _ h1
    obtain ⟨R, hR⟩ : ∃ R : List AU, List.replicate 4 (m1, ((1 : Int), (2 : Int))) = R := ⟨_, rfl⟩
    have eU : R.map (·.2) = halves := by rw [← hR, List.map_replicate]
    have lR : R.length = 4 := by rw [← hR, List.length_replicate]
    have uo : Upok (R.map (·.2)) := eU ▸ half_ok
    rw [hR] at f10
    have ups : UpsB H10 m3 R := ⟨.inl f10, fun r hr => by
      rw [← hR] at hr
      rw [List.eq_of_mem_replicate hr]
      exact (s9.trans s10) _ _ f8⟩
    refine ⟨_, rfl, _, rfl, .ref m3, .int k.u, .ref sa, rfl, _, wz_ups ups, (fun os e => ?_), (fun no => ?_), fun os e _ => ?_⟩
    · cases e
      rw [uOL_len, lR]
      decide
    · rw [okW_ups uo (by omega) (by omega)] at no
      cases no
    cases e
    rw [uOL_len, lR]
    refine cku_ok u0 (by omega) (ckh_ok hs10 cs ⟨m3, R, k.u, sa, k.s, rfl, rfl, rfl, ups, lR, uo, u0, by omega, hs10, cs, t10, fun v G eN tN hv => ?_⟩)
    have hd := bv_dw hv
    have sw : Shw (bvD (k.s.2 * botN halves 4) (bestU halves k.s k.u.toNat 4)) := bv_shw half_ok cs.sh rfl (by decide)
    rw [eU, lR, eD] at hd
    rw [eD] at sw
    have eG : LamX.ExtN H7 G := (LamX.ExtN.of s710).trans eN
    refine ⟨v, _, rfl, hd, sw, _, rfl, .ref d, _, rfl, Row.dw (ext_tp eG h2) (ext_tp eG h3) (ext_tp eG h4), sw, ?_⟩
    refine ⟨rfl, ?_⟩
    rw [show decide (V.str (knD k).shown = V.str (knD k).shown) = true from by simp]
    exact q H7 G b07 z7 eG tN
end
end Pl

namespace Pl
open L2 PySem PySem.Spec PyProof.Rows RZ
def spLaw (K : PySem.W.Frag) (Tb : TbL) : Sp := fun vs H Q _ => ∃ (a : Addr) (ns : List Int), vs = [.ref a] ∧ SqL K H a (ns.map V.int) ∧ LamX.Tabs Tb H ∧ ∀ H', Q (.bl true) H'
abbrev nW : List Str := ["_law_script", "_law_source", "_law_turn", "_law_many", "_law_up_here", "_law_share_here", "_law_unruly_here", "_law_due", "_law_odd", "_law_few", "_law_ups_here", "_law_copy"]
theorem okW_long {R : List AU} (h : 4 < R.length) : okW (some (uOL R)) = false := by
  show ((uOL R).all chaT && (decide (1 ≤ (uOL R).length) && decide ((uOL R).length ≤ 4))) = false
  rw [uOL_len, decide_eq_false (by omega : ¬ R.length ≤ 4), Bool.and_false, Bool.and_false]
/-- five halves, as data -/
def fiveD : PyData := .list (List.replicate 5 (.tuple [.int 1, .int 2]))
theorem five_sm : SmD fiveD := .inr (.inr ⟨_, rfl, by decide, fun x hx => by
  rw [List.eq_of_mem_replicate hx]
  exact el_pair (by decide) (by decide) (by decide) (by decide)⟩)
def Five (H : Hp) (m : Addr) : Prop := ∃ a, H m = some (.lst (urefs (List.replicate 5 (a, ((1 : Int), (2 : Int)))))) ∧ H a = some (.tup [.int 1, .int 2])
theorem Five.same {H G : Hp} {m : Addr} (h : Five H m) (s : Same H G) : Five G m := by
  obtain ⟨a, h1, h2⟩ := h
  exact ⟨a, s _ _ h1, s _ _ h2⟩
theorem Five.dw {H : Hp} {m : Addr} (h : Five H m) : Dw H (.ref m) fiveD := by
  obtain ⟨a, h1, h2⟩ := h
  have t : Dw H (.ref a) (.tuple [.int 1, .int 2]) := .tup h2 (.cons (.fl (.int 1)) (.cons (.fl (.int 2)) .nil))
  exact .lst h1 (.cons t (.cons t (.cons t (.cons t (.cons t .nil)))))
theorem Five.ups {H : Hp} {m : Addr} (h : Five H m) : ∃ R : List AU, UpsB H m R ∧ R.length = 5 := by
  obtain ⟨a, h1, h2⟩ := h
  exact ⟨_, ⟨.inl h1, fun r hr => by
    rw [List.eq_of_mem_replicate hr]
    exact h2⟩, rfl⟩
theorem five_read {σ : L2.St} {H : Hp} {Q : VK} (q : ∀ m G, Same H G → Five G m → Q (.ref m) G) : tOp rRep (tLst (tCons (tTup (tCons (tC (.int 1)) (tCons (tC (.int 2)) tNil))) tNil)) (tC (.int 5)) σ H Q := by
  refine ⟨by show 2 ≤ sizeLine; decide, fun m1 hm1 => ?_⟩
  have s1 := same_up (o := .tup [V.int 1, .int 2]) hm1
  have f1 : upd H m1 (.tup [V.int 1, .int 2]) m1 = some (.tup [V.int 1, .int 2]) := upd_same
  generalize upd H m1 (.tup [V.int 1, .int 2]) = H1 at s1 f1 ⊢
  refine ⟨by show 1 ≤ sizeLine; decide, fun m2 hm2 => ?_⟩
  have s2 := same_up (o := .lst [V.ref m1]) hm2
  have f2 : upd H1 m2 (.lst [V.ref m1]) m2 = some (.lst [V.ref m1]) := upd_same
  generalize upd H1 m2 (.lst [V.ref m1]) = H2 at s2 f2 ⊢
  refine ⟨m2, 5, [.ref m1], rfl, rfl, f2, by decide, by decide, by show 1 * 5 ≤ sizeLine; decide, fun m3 hm3 => ?_⟩
  have er : (List.replicate (5 : Int).toNat [V.ref m1]).flatten = urefs (List.replicate 5 (m1, ((1 : Int), (2 : Int)))) := rfl
  rw [er]
  have s3 := same_up (o := .lst (urefs (List.replicate 5 (m1, ((1 : Int), (2 : Int)))))) hm3
  exact q m3 _ ((s1.trans s2).trans s3) ⟨m1, upd_same, (s2.trans s3) _ _ f1⟩
theorem bv_ext {H G : Hp} {v : V} {b : Int} (e : LamX.ExtN H G) : ∀ {c : Option Cd}, BvIs H v b c → BvIs G v b c
  | none, h => h
  | some c, ⟨p, a, q, h0, h1, h2, h3⟩ => ⟨p, a, q, h0, ext_tp e h1, ext_tp e h2, ext_tp e h3⟩
theorem four_step {Tb : TbL} {a : Bool} {z : Addr} {σ : L2.St} {G : Hp} {Q : Bool → Hp → Prop} (hs : σ[1]? = some (some (.ref z))) (hz : Src z G) (hT : LamX.Tabs Tb G) (next : ∀ F, LamX.Tabs Tb F → (∀ b xs, G b = some (.tup xs) → F b = some (.tup xs)) → (∀ b xs, b ≠ z → G b = some (.lst xs) → F b = some (.lst xs)) → Q false F) :
    if a = true then tNot (tB (tCallG (spFour Tb) (tCons (tVar 1) tNil))) σ G Q else Q false G := by
  cases a with
  | true => exact ⟨_, hs, z, rfl, hz, hT, fun G1 F b1 z1 e1 t1 => ⟨_, rfl, next F t1 (fun b xs h => ext_tp e1 (tup_z h hz b1)) fun b xs n h => ext_at e1 (b1 b _ n trivial h)⟩⟩
  | false => exact next G hT (fun _ _ h => h) fun _ _ _ h => h
section
variable {P : Program} {w : World} {K : PySem.W.Frag} {mg : Str → Option Value} {base : Heap} {c : Fo} {cd Pt : Addr} {Tb : TbL}
theorem scLaw : FnScope nW ["_law_script"] (defScope sLaw) := ⟨rfl, rfl, rfl, by decide +kernel, rfl, by decide +kernel, by decide +kernel⟩
theorem ok_law {f gT : Addr} {fd fdT : FuncData} (F : FunC K "law" "law" sLaw f cd fd) (T : Cst mg) (S : Tri K mg c) (TB : LamX.TabB base mg cd Pt) (hmT : (Pt, lamR) ∈ Tb) (huT : ∀ p ∈ Tb, p.1 = Pt → p.2 = lamR) (FT : Fun K "_law_caught" "_law_caught" sCaught gT fdT) (mT : mg "_law_caught" = some (.ref gT)) (bT : Binds K fdT ["_law_call"] [])
    (DP : Df P w K mg base 1 "_law_pool" ["_law_script", "_law_k"] (spPool K)) (DK : Df P w K mg base 1 "_law_take" ["_law_source", "_law_top"] spTake) (DO : Df P w K mg base 2 "_law_one" ["_law_source", "_law_things"] spOne) (DU : Df P w K mg base 2 "_law_chance" ["_law_source"] spLCh) (DC : Df P w K mg base 3 "_law_counts" psLCnt spLCnt) (DD : Df P w K mg base 4 "_law_votes_due" psLDue spLDue)
    (DF : DfG P w K mg base 8 "_law_four_right" ["_law_source"] (spFour Tb)) (DB : DfX P w K mg base 6 "best_counts" psBC (spBestC K Tb c.n c.h)) (DV : DfX P w K mg base 6 "best_votes" psBV (spBestV K Tb c.n c.h)) : FnG P w K mg base 10 f fd ["_law_script"] (spLaw K Tb) := by
  obtain ⟨oc, od, kV, doc, pm, an, cdv, ct, osl, rfl, lT, hcT⟩ := FT.ex
  have kT := FT.kp
  obtain ⟨gP, fdP, GP, mP, kP, bP⟩ := DP.ex
  obtain ⟨gK, fdK, GK, mK, kK, bK⟩ := DK.ex
  obtain ⟨gO, fdO, GO, mO, kO, bO⟩ := DO.ex
  obtain ⟨gU, fdU, GU, mU, kU, bU⟩ := DU.ex
  obtain ⟨gC, fdC, GC, mC, kC, bC⟩ := DC.ex
  obtain ⟨gD, fdD, GD, mD, kD, bD⟩ := DD.ex
  obtain ⟨gF, fdF, GF, mF, kF, bF⟩ := DF.ex
  obtain ⟨gB, fdB, GB, mB, kB, bB⟩ := DB.ex
  obtain ⟨gV, fdV, GV, mV, kV, bV⟩ := DV.ex
  refine okC F scLaw (fun vs H Q E h => ?_) (fun A outer s H vs Q E hgd hr h => ?_)
  · obtain ⟨a, ns, rfl, _⟩ := h
    rfl
  · obtain ⟨a, ns, rfl, hS, hT, q⟩ := h
    have hu : (A.deeper (envOfC "law" (defScope sLaw) s.heap.objs.size f (.ref cd))).units + 64 < cLine := by
      have := hr.un
      omega
    have hun : (A.deeper (envOfC "law" (defScope sLaw) s.heap.objs.size f (.ref cd))).units + 128 < cLine := by
      have := hr.un
      omega
    refine ⟨_, (pss_cons (ps_set (i := 1) scLaw.nd rfl (Or.inr rfl) (pe_call GP (hr.mono (by decide)) (by rfl) mP kP bP .nil pass0 (pa_cons (pv 0) (pa_cons pe_int pa_nil))))
        (pss_cons (ps_for PassesOwn.never rfl (pi_range1 (by rfl) T.rng (pa_cons pe_int pa_nil)) (pg_name (i := 2) scLaw.nd rfl (Or.inl rfl))
        (pss_cons (ps_asg (pe_tup (pa_cons (pe_op op_add pe_int (pe_call GK (hr.mono (by decide)) (by rfl) mK kK bK .nil pass0 (pa_cons (pv 1) (pa_cons pe_int pa_nil)))) (pa_cons (pe_call GU (hr.mono (by decide)) (by rfl) mU kU bU .nil pass0 (pa_cons (pv 1) pa_nil)) (pa_cons (pe_call GU (hr.mono (by decide)) (by rfl) mU kU bU .nil pass0 (pa_cons (pv 1) pa_nil)) pa_nil)))) (pg_tup rfl (pgs_cons (pg_name (i := 3) scLaw.nd rfl (Or.inr rfl)) (pgs_cons (pg_name (i := 4) scLaw.nd rfl (Or.inl rfl)) (pgs_cons (pg_name (i := 5) scLaw.nd rfl (Or.inl rfl)) pgs_nil)))))
        (pss_cons (ps_set (i := 6) scLaw.nd rfl (Or.inr rfl) (pe_call GK (hr.mono (by decide)) (by rfl) mK kK bK .nil pass0 (pa_cons (pv 1) (pa_cons (pe_op op_add (pv 3) pe_int) pa_nil))))
        (pss_cons (ps_set (i := 7) scLaw.nd rfl (Or.inl rfl) (pe_call GC (hr.mono (by decide)) (by rfl) mC kC bC .nil pass0 (pa_cons (pv 3) (pa_cons (pv 6) (pa_cons (pv 4) (pa_cons (pv 5) pa_nil))))))
        (pss_cons (ps_if (pt_cmpR op_ne (pe_callB (call_reprW hgd hu) (by rfl) T.rpr (by decide +kernel) (pa_cons (pe_call (E := fun _ _ _ => False) GB (hr.mono (by decide)) (by rfl) mB kB bB .nil (passes_call takes0 fun _ _ _ _ h => h) (pa_cons (pv 3) (pa_cons (pv 6) (pa_cons (pv 4) (pa_cons (pv 5) pa_nil))))) pa_nil)) (pe_callB (call_reprW hgd hu) (by rfl) T.rpr (by decide +kernel) (pa_cons (pv 7) pa_nil)) (nomark _)) (pss_one (ps_ret pe_bl)) pss_nil)
        (pss_cons (ps_set (i := 8) scLaw.nd rfl (Or.inr rfl) (pe_call GO (hr.mono (by decide)) (by rfl) mO kO bO .nil pass0 (pa_cons (pv 1) (pa_cons (pe_lst (pa_cons pe_non (pa_cons (pe_tup (pa_cons pe_int (pa_cons pe_int pa_nil))) (pa_cons (pe_tup (pa_cons pe_int (pa_cons pe_int pa_nil))) (pa_cons (pe_tup (pa_cons pe_int (pa_cons pe_int pa_nil))) (pa_cons (pe_lst (pa_cons pe_int (pa_cons pe_int pa_nil))) (pa_cons (pe_tup (pa_cons pe_bl (pa_cons pe_int pa_nil))) (pa_cons (pe_tup (pa_cons (pe_un un_neg pe_int) (pa_cons pe_int pa_nil))) pa_nil)))))))) pa_nil))))
        (pss_cons (ps_if (pt_cmpR (op_neD hu) (LamX.pe_lamcall (x := "_law_caught") (a := "_law_call") (T := Tb) (TT := TTr c) (k := 6) (by rfl) mT kT lT hcT bT scTried rfl (Or.inl rfl) (tried_gives hgd hun T S) TB rfl hmT huT (hr.mono (by decide)) (show LamX.LamS (defScope sLaw) _ from LamX.lamS_by (by decide +kernel)) rfl (fun _ _ _ _ _ => rfl) (fun A outer s H E f c' hr2 => pe_call (E := E) GB (hr2.mono (by decide)) (by rfl) mB kB bB .nil (passes_call (takes_of rfl rfl rfl rfl) fun _ _ _ _ h => h) (pa_cons (pv 3) (pa_cons (pv 6) (pa_cons (pv 8) (pa_cons (pv 8) pa_nil)))))) (pe_lst (pa_cons pe_str (pa_cons (pe_callB (call_reprW hgd hu) (by rfl) T.rpr (by decide +kernel) (pa_cons (pv 8) pa_nil)) pa_nil))) (nomark _)) (pss_one (ps_ret pe_bl)) pss_nil)
        (pss_cons (ps_if (pt_cmpR (op_neD hu) (LamX.pe_lamcall (x := "_law_caught") (a := "_law_call") (T := Tb) (TT := TTr c) (k := 6) (by rfl) mT kT lT hcT bT scTried rfl (Or.inl rfl) (tried_gives hgd hun T S) TB rfl hmT huT (hr.mono (by decide)) (show LamX.LamS (defScope sLaw) _ from LamX.lamS_by (by decide +kernel)) rfl (fun _ _ _ _ _ => rfl) (fun A outer s H E f c' hr2 => pe_call (E := E) GB (hr2.mono (by decide)) (by rfl) mB kB bB .nil (passes_call (takes_of rfl rfl rfl rfl) fun _ _ _ _ h => h) (pa_cons pe_int (pa_cons pe_int (pa_cons (pv 8) (pa_cons (pv 8) pa_nil)))))) (pe_lst (pa_cons pe_str (pa_cons pe_str pa_nil))) (nomark _)) (pss_one (ps_ret pe_bl)) pss_nil)
        (pss_one (ps_if (pt_cmpR (op_neD hu) (LamX.pe_lamcall (x := "_law_caught") (a := "_law_call") (T := Tb) (TT := TTr c) (k := 6) (by rfl) mT kT lT hcT bT scTried rfl (Or.inl rfl) (tried_gives hgd hun T S) TB rfl hmT huT (hr.mono (by decide)) (show LamX.LamS (defScope sLaw) _ from LamX.lamS_by (by decide +kernel)) rfl (fun _ _ _ _ _ => rfl) (fun A outer s H E f c' hr2 => pe_call (E := E) GB (hr2.mono (by decide)) (by rfl) mB kB bB .nil (passes_call (takes_of rfl rfl rfl rfl) fun _ _ _ _ h => h) (pa_cons (pv 3) (pa_cons (pe_op op_add (pv 3) pe_int) (pa_cons (pv 8) (pa_cons (pv 8) pa_nil)))))) (pe_lst (pa_cons pe_str (pa_cons (pe_callB (call_reprW hgd hu) (by rfl) T.rpr (by decide +kernel) (pa_cons (pe_op op_add (pv 3) pe_int) pa_nil)) pa_nil))) (nomark _)) (pss_one (ps_ret pe_bl)) pss_nil))))))))))
        (pss_cons (ps_set (i := 9) scLaw.nd rfl (Or.inr rfl) (pe_op op_add pe_int (pe_call GO (hr.mono (by decide)) (by rfl) mO kO bO .nil pass0 (pa_cons (pv 1) (pa_cons (pe_lst (pa_cons pe_int (pa_cons pe_int (pa_cons pe_int (pa_cons pe_int pa_nil))))) pa_nil)))))
        (pss_cons (ps_asg (pe_tup (pa_cons (pe_lc (own := [("_law_copy", 11)]) (g := gName 11) (tt := tYes) rfl scLaw.nd (pi_range1 (by rfl) T.rng (pa_cons (pv 9) pa_nil)) (blkOk_by (own := [("_law_copy", 11)]) (N := nW) (sc := defScope sLaw) (by decide +kernel)) (fun _ _ _ _ _ => pg_name (i := 11) scLaw.nd rfl (Or.inl rfl)) (fun _ _ _ _ _ => pts_nil) (fun _ _ _ _ _ => (pe_call GU (hr.mono (by decide)) (by rfl) mU kU bU .nil pass0 (pa_cons (pv 1) pa_nil)))) (pa_cons (pe_call GU (hr.mono (by decide)) (by rfl) mU kU bU .nil pass0 (pa_cons (pv 1) pa_nil)) pa_nil))) (pg_tup rfl (pgs_cons (pg_name (i := 10) scLaw.nd rfl (Or.inr rfl)) (pgs_cons (pg_name (i := 5) scLaw.nd rfl (Or.inl rfl)) pgs_nil))))
        (pss_cons (ps_set (i := 6) scLaw.nd rfl (Or.inr rfl) (pe_call GK (hr.mono (by decide)) (by rfl) mK kK bK .nil pass0 (pa_cons (pv 1) (pa_cons pe_int pa_nil))))
        (pss_cons (ps_set (i := 7) scLaw.nd rfl (Or.inl rfl) (pe_call GD (hr.mono (by decide)) (by rfl) mD kD bD .nil pass0 (pa_cons (pv 10) (pa_cons (pv 6) (pa_cons (pv 5) pa_nil)))))
        (pss_cons (ps_if (pt_cmpR op_ne (pe_callB (call_reprW hgd hu) (by rfl) T.rpr (by decide +kernel) (pa_cons (pe_call (E := fun _ _ _ => False) GV (hr.mono (by decide)) (by rfl) mV kV bV .nil (passes_call takes0 fun _ _ _ _ h => h) (pa_cons (pv 10) (pa_cons (pv 6) (pa_cons (pv 5) pa_nil)))) pa_nil)) (pe_callB (call_reprW hgd hu) (by rfl) T.rpr (by decide +kernel) (pa_cons (pv 7) pa_nil)) (nomark _)) (pss_one (ps_ret pe_bl)) pss_nil)
        (pss_cons (ps_if (PW.pt (pw_and (pt_cmpR op_eq (pe_call GK (hr.mono (by decide)) (by rfl) mK kK bK .nil pass0 (pa_cons (pv 1) (pa_cons pe_int pa_nil))) pe_int (nomark _)) (pw_and1 (pt_not (pt_val (pe_callG GF hgd (hr.mono (by decide)) (by rfl) mF kF bF (pa_cons (pv 1) pa_nil))))))) (pss_one (ps_ret pe_bl)) pss_nil)
        (pss_cons (ps_if (pt_cmpR (op_neD hu) (LamX.pe_lamcall (x := "_law_caught") (a := "_law_call") (T := Tb) (TT := TTr c) (k := 6) (by rfl) mT kT lT hcT bT scTried rfl (Or.inl rfl) (tried_gives hgd hun T S) TB rfl hmT huT (hr.mono (by decide)) (show LamX.LamS (defScope sLaw) _ from LamX.lamS_by (by decide +kernel)) rfl (fun _ _ _ _ _ => rfl) (fun A outer s H E f c' hr2 => pe_call (E := E) GV (hr2.mono (by decide)) (by rfl) mV kV bV .nil (passes_call (takes_of rfl rfl rfl rfl) fun _ _ _ _ h => h) (pa_cons (pe_op (show OpR _ (binaryOp .Mult) rRep from op_rep) (pe_lst (pa_cons (pe_tup (pa_cons pe_int (pa_cons pe_int pa_nil))) pa_nil)) pe_int) (pa_cons pe_non (pa_cons pe_non pa_nil))))) (pe_lst (pa_cons pe_str (pa_cons (pe_callB (call_reprW hgd hu) (by rfl) T.rpr (by decide +kernel) (pa_cons (pe_op (show OpR _ (binaryOp .Mult) rRep from op_rep) (pe_lst (pa_cons (pe_tup (pa_cons pe_int (pa_cons pe_int pa_nil))) pa_nil)) pe_int) pa_nil)) pa_nil))) (nomark _)) (pss_one (ps_ret pe_bl)) pss_nil)
        (pss_one (ps_ret (pe_cmpR (op_eqD hu) (LamX.pe_lamcall (x := "_law_caught") (a := "_law_call") (T := Tb) (TT := TTr c) (k := 6) (by rfl) mT kT lT hcT bT scTried rfl (Or.inl rfl) (tried_gives hgd hun T S) TB rfl hmT huT (hr.mono (by decide)) (show LamX.LamS (defScope sLaw) _ from LamX.lamS_by (by decide +kernel)) rfl (fun _ _ _ _ _ => rfl) (fun A outer s H E f c' hr2 => pe_call (E := E) GV (hr2.mono (by decide)) (by rfl) mV kV bV .nil (passes_call (takes_of rfl rfl rfl rfl) fun _ _ _ _ h => h) (pa_cons (pv 10) (pa_cons (pe_op op_add (pv 9) pe_int) (pa_cons pe_non pa_nil))))) (pe_lst (pa_cons pe_str (pa_cons (pe_callB (call_reprW hgd hu) (by rfl) T.rpr (by decide +kernel) (pa_cons (pe_op op_add (pv 9) pe_int) pa_nil)) pa_nil))) (nomark _))))))))))))), ?_⟩
    refine ⟨_, rfl, a, ns, 0, rfl, hS, by decide, by decide, fun z G1 nz s1 z1 => ?_⟩
    have t1 := hT.ext s1
    refine ⟨4, rfl, by decide, by decide, for_range (n := 4) (fun i σ G => (∃ x2 x3 x4 x5 x6 x7 x8 x9 x10, σ = [some (.ref a), some (.ref z), x2, x3, x4, x5, x6, x7, x8, x9, x10, none]) ∧ Src z G ∧ LamX.Tabs Tb G) ⟨⟨_, _, _, _, _, _, _, _, _, rfl⟩, z1, t1⟩ ?_ ?_⟩
    · rintro i σ G hi ⟨⟨x2, x3, x4, x5, x6, x7, x8, x9, x10, rfl⟩, zG, tG⟩
      refine ⟨_, rfl, z, 5, rfl, zG, by decide, by decide, fun r G2 r0 r1 b2 z2 => ?_⟩
      have t2 := tabs_but b2 zG tG
      obtain ⟨k, hk⟩ : ∃ k : Nat, 1 + r = (k : Int) := ⟨(1 + r).toNat, by omega⟩
      refine rI0_to (v := V.int k) (congrArg V.int hk) ?_
      refine ⟨_, rfl, z, rfl, z2, fun ua x G3 b3 z3 uz uf hx cx => ?_⟩
      have t3 := tabs_but b3 z2 t2
      refine ⟨_, rfl, z, rfl, z3, fun sa s G4 b4 z4 sz sf hs cs => ?_⟩
      have t4 := tabs_but b4 z3 t3
      have hx := tup_z hx z3 b4
      refine ⟨by show 3 ≤ sizeLine; decide, fun tp htp => ?_⟩
      have s5 := same_up (o := .tup [V.int k, .ref ua, .ref sa]) htp
      have f5 : upd G4 tp (.tup [V.int k, .ref ua, .ref sa]) tp = some (.tup [V.int k, .ref ua, .ref sa]) := upd_same
      generalize upd G4 tp (.tup [V.int k, .ref ua, .ref sa]) = G5 at s5 f5 ⊢
      have z5 := z4.same s5
      have t5 := t4.ext s5
      refine ⟨tp, _, rfl, SqT.of f5, rfl, _, _, rfl, _, _, rfl, _, _, rfl, rfl, ?_⟩
      refine ⟨_, rfl, _, rfl, _, _, rfl, rfl, z, (k : Int) + 1, rfl, z5, by omega, by omega, fun un G6 u0 u1 b6 z6 => ?_⟩
      have t6 := tabs_but b6 z5 t5
      have hx6 : Share G6 ua x := tup_z (s5 _ _ hx) z5 b6
      have hs6 : Share G6 sa s := tup_z (s5 _ _ hs) z5 b6
      have k1 : 1 ≤ k := by omega
      have k5 : k ≤ 5 := by omega
      have wk : within (.int (k : Int)) 1 5 = true := within_in (by omega) (by omega)
      refine ⟨_, rfl, _, rfl, _, rfl, _, rfl, k, un, ua, sa, x, s, rfl, k1, k5, u0, by omega, hx6, hs6, cx, cs, fun p L G7 s7 hL eL => ?_⟩
      have t7 := t6.ext s7
      have z7 := z6.same s7
      have hx7 : Share G7 ua x := s7 _ _ hx6
      have hs7 : Share G7 sa s := s7 _ _ hs6
      refine ⟨_, rfl, _, rfl, _, rfl, _, rfl, (k : Int), .int un, .ref ua, .ref sa, rfl, (fun no => ?_), fun _ => cku_ok u0 ?_ (ckh_ok hx7 cx (ckh_ok hs7 cs ⟨un, ua, sa, x, s, rfl, rfl, rfl, hx7, hs7, cx, cs, u0, by omega, t7, fun p2 L2 G8 e8 t8 hL2 eL2 => ?_⟩))⟩
      · rw [wk] at no
        cases no
      · show un ≤ (((k : Int).toNat : Nat) : Int)
        omega
      have eL2 : L2.map (·.2) = topC (wC (List.replicate k x) k s) (cnts k un k) := eL2
      have sm : SmD (cD (topC (wC (List.replicate k x) k s) (cnts k un k))) := sm_counts (by omega) k5
      have shw := (smd_ok sm).1
      have d2 := dw_lots hL2
      have d1 := dw_lots (hL.ext e8)
      rw [eL2] at d2
      rw [eL] at d1
      generalize cD (topC (wC (List.replicate k x) k s) (cnts k un k)) = cd_ at sm shw d1 d2
      refine ⟨.ref p2, cd_, rfl, d2, shw, _, rfl, .ref p, cd_, rfl, d1, shw, rfl, _, rfl, ?_⟩
      rw [show (!decide (V.str cd_.shown = V.str cd_.shown)) = false from by simp]
      refine iteF ?_
      have z8 := z7.ext e8
      clear d1 d2 hL hL2 eL eL2 hx hs hx6 hs6 hx7 hs7
      refine ⟨_, rfl, ?_⟩
      refine ⟨by show 2 ≤ sizeLine; decide, fun o1 ho1 => ?_⟩
      have so1 := same_up (o := .tup [V.int 2, .int 4]) ho1
      have fo1 : upd G8 o1 (.tup [V.int 2, .int 4]) o1 = some (.tup [V.int 2, .int 4]) := upd_same
      generalize upd G8 o1 (.tup [V.int 2, .int 4]) = J1 at so1 fo1 ⊢
      have zz1 := z8.same so1
      refine ⟨by show 2 ≤ sizeLine; decide, fun o2 ho2 => ?_⟩
      have so2 := same_up (o := .tup [V.int 3, .int 2]) ho2
      have fo2 : upd J1 o2 (.tup [V.int 3, .int 2]) o2 = some (.tup [V.int 3, .int 2]) := upd_same
      generalize upd J1 o2 (.tup [V.int 3, .int 2]) = J2 at so2 fo2 ⊢
      have zz2 := zz1.same so2
      refine ⟨by show 2 ≤ sizeLine; decide, fun o3 ho3 => ?_⟩
      have so3 := same_up (o := .tup [V.int 1, .int 21]) ho3
      have fo3 : upd J2 o3 (.tup [V.int 1, .int 21]) o3 = some (.tup [V.int 1, .int 21]) := upd_same
      generalize upd J2 o3 (.tup [V.int 1, .int 21]) = J3 at so3 fo3 ⊢
      have zz3 := zz2.same so3
      refine ⟨by show 2 ≤ sizeLine; decide, fun o4 ho4 => ?_⟩
      have so4 := same_up (o := .lst [V.int 1, .int 2]) ho4
      have fo4 : upd J3 o4 (.lst [V.int 1, .int 2]) o4 = some (.lst [V.int 1, .int 2]) := upd_same
      generalize upd J3 o4 (.lst [V.int 1, .int 2]) = J4 at so4 fo4 ⊢
      have no4 : o4 ≠ z := zz3.ne ho4
      have zz4 := zz3.same so4
      refine ⟨by show 2 ≤ sizeLine; decide, fun o5 ho5 => ?_⟩
      have so5 := same_up (o := .tup [V.bl true, .int 2]) ho5
      have fo5 : upd J4 o5 (.tup [V.bl true, .int 2]) o5 = some (.tup [V.bl true, .int 2]) := upd_same
      generalize upd J4 o5 (.tup [V.bl true, .int 2]) = J5 at so5 fo5 ⊢
      have zz5 := zz4.same so5
      refine ⟨1, rfl, by show 2 ≤ sizeLine; decide, fun o6 ho6 => ?_⟩
      have so6 := same_up (o := .tup [V.int (-1), .int 2]) ho6
      have fo6 : upd J5 o6 (.tup [V.int (-1), .int 2]) o6 = some (.tup [V.int (-1), .int 2]) := upd_same
      generalize upd J5 o6 (.tup [V.int (-1), .int 2]) = J6 at so6 fo6 ⊢
      have zz6 := zz5.same so6
      refine ⟨by show 7 ≤ sizeLine; decide, fun ol hol => ?_⟩
      have sol := same_up (o := .lst [V.non, .ref o1, .ref o2, .ref o3, .ref o4, .ref o5, .ref o6]) hol
      have fol : upd J6 ol (.lst [V.non, .ref o1, .ref o2, .ref o3, .ref o4, .ref o5, .ref o6]) ol = some (.lst [V.non, .ref o1, .ref o2, .ref o3, .ref o4, .ref o5, .ref o6]) := upd_same
      generalize upd J6 ol (.lst [V.non, .ref o1, .ref o2, .ref o3, .ref o4, .ref o5, .ref o6]) = J7 at sol fol ⊢
      have nol : ol ≠ z := zz6.ne hol
      have zz7 := zz6.same sol
      have sJ := ((((((so1.trans so2).trans so3).trans so4).trans so5).trans so6).trans sol)
      have all : ∀ x ∈ [V.non, .ref o1, .ref o2, .ref o3, .ref o4, .ref o5, .ref o6], Bad1 z J7 x := by
        intro x hx
        simp only [List.mem_cons, List.not_mem_nil, or_false] at hx; skip
        rcases hx with rfl | rfl | rfl | rfl | rfl | rfl | rfl
        · exact ⟨_, _, .non, .inl (by simp [flD]), rfl⟩
        · exact ⟨_, _, .tup ((((((so2.trans so3).trans so4).trans so5).trans so6).trans sol) _ _ fo1) (.int _) (.int _), .inr (.inl (el_pair (t := 2) (b := 4) (by decide) (by decide) (by decide) (by decide))), by decide +kernel⟩
        · exact ⟨_, _, .tup (((((so3.trans so4).trans so5).trans so6).trans sol) _ _ fo2) (.int _) (.int _), .inr (.inl (el_pair (t := 3) (b := 2) (by decide) (by decide) (by decide) (by decide))), by decide +kernel⟩
        · exact ⟨_, _, .tup ((((so4.trans so5).trans so6).trans sol) _ _ fo3) (.int _) (.int _), .inr (.inl (by simp [elD])), by decide +kernel⟩
        · exact ⟨_, _, .lst (((so5.trans so6).trans sol) _ _ fo4) no4 (.int _) (.int _), .inr (.inl (by simp [elD])), by decide +kernel⟩
        · exact ⟨_, _, .tup ((so6.trans sol) _ _ fo5) (.bl _) (.int _), .inr (.inl (by simp [elD])), by decide +kernel⟩
        · exact ⟨_, _, .tup (sol _ _ fo6) (.int _) (.int _), .inr (.inl (by simp [elD])), by decide +kernel⟩
      refine ⟨z, ol, _, rfl, zz7, fol, nol, by show 0 < 7; decide, by show 7 ≤ 100; decide, fun j x_ J8 hxj b9 z9 => ?_⟩
      obtain ⟨e, o, oz, sme, bno⟩ := all x_ (List.mem_of_getElem? hxj)
      have oz := oz.but zz7 b9
      have t9 := tabs_but b9 zz7 (t8.ext sJ)
      clear all
      refine ne_tried (K := K) (w := "chances") (C := c.h) (e := e) (v := x_) (.inr ⟨rfl, rfl⟩) t9 (fun E H1 Q' x1 T1 r => ⟨_, rfl, _, rfl, _, rfl, _, rfl, (k : Int), .int un, x_, x_, rfl, (fun no => by
        rw [wk] at no
        cases no), fun _ => cku_ok u0 (by show un ≤ (((k : Int).toNat : Nat) : Int); omega) (ckh_bad (oz.ext x1).tz bno r)⟩) (fun H1 x1 => ⟨sme, (oz.ext x1).dw⟩) (fun H1 Q' x1 q' => due_read rfl ⟨sme, (oz.ext x1).dw⟩ q') fun H21 e21 t21 => iteF ?_
      have oz1 := oz.ext e21
      have sm6 : SmD (.int 6) := sm_int (by decide) (by decide)
      refine ne_tried (K := K) (w := "count") (C := c.n) (e := .int 6) (v := .int 6) (.inl ⟨rfl, rfl⟩) t21 (fun E H1 Q' x1 T1 r => ⟨_, rfl, _, rfl, 6, .int 9, x_, x_, rfl, (fun _ => r), fun ok => absurd ok (by decide)⟩) (fun H1 _ => .fl sm6 (.int 6)) (fun H1 Q' x1 q' => ⟨by show 2 ≤ sizeLine; decide, fun p2 hp2 => q' p2 _ (same_up hp2) ?due6⟩) fun H22 e22 t22 => iteF ?_
      case due6 =>
        rw [upd_same]
        have e0 : PyData.shown (.int 6) = ("6" : Str) := by
          simp only [PyData.shown]
          decide +kernel
        show some (HO.lst [V.str "count", V.str ("6" : Str)]) = some (HO.lst [V.str "count", V.str (PyData.shown (.int 6))])
        rw [e0]
      have sm1 : SmD (.int ((k : Int) + 1)) := sm_int (by omega) (by omega)
      have odn : ∀ H1 : Hp, OdV H1 (.int ((k : Int) + 1)) (.int ((k : Int) + 1)) := fun H1 => .fl sm1 (.int _)
      refine ne_tried (K := K) (w := "count") (C := c.n) (e := .int ((k : Int) + 1)) (v := .int ((k : Int) + 1)) (.inl ⟨rfl, rfl⟩) t22 (fun E H1 Q' x1 T1 r => ⟨_, rfl, _, rfl, _, _, rfl, rfl, _, rfl, _, rfl, (k : Int), .int ((k : Int) + 1), x_, x_, rfl, (fun no => by
        rw [wk] at no
        cases no), fun _ => cku_hi (by show (((k : Int).toNat : Nat) : Int) < (k : Int) + 1; omega) r⟩) (fun H1 _ => odn H1) (fun H1 Q' x1 q' => ⟨_, rfl, _, _, rfl, rfl, .int ((k : Int) + 1), .int ((k : Int) + 1), rfl, (odn H1).2, (smd_ok sm1).1, by show 2 ≤ sizeLine; decide, fun p2 hp2 => q' p2 _ (same_up hp2) upd_same⟩) fun H23 e23 t23 => iteF ?_
      exact ⟨⟨_, _, _, _, _, _, _, _, _, rfl⟩, ((z9.ext e21).ext e22).ext e23, t23⟩
    rintro σ G ⟨⟨x2, x3, x4, x5, x6, x7, x8, x9, x10, rfl⟩, zG, tG⟩
    refine ⟨_, rfl, by show 4 ≤ sizeLine; decide, fun l hl => ?_⟩
    have s2 := same_up (o := .lst [V.int 0, .int 1, .int 1, .int 2]) hl
    have f2 : upd G l (.lst [V.int 0, .int 1, .int 1, .int 2]) l = some (.lst [V.int 0, .int 1, .int 1, .int 2]) := upd_same
    generalize upd G l (.lst [V.int 0, .int 1, .int 1, .int 2]) = G2 at s2 f2 ⊢
    have z2 := zG.same s2
    have t2 := tG.ext s2
    refine ⟨z, l, _, rfl, z2, f2, zG.ne hl, by show 0 < 4; decide, by show 4 ≤ 100; decide, fun j y G3 hy b3 z3 => ?_⟩
    have t3 := tabs_but b3 z2 t2
    obtain ⟨i, rfl, i0, i2⟩ : ∃ i : Int, y = .int i ∧ 0 ≤ i ∧ i ≤ 2 := by
      have := List.mem_of_getElem? hy
      simp only [List.mem_cons, List.not_mem_nil, or_false] at this
      rcases this with rfl | rfl | rfl | rfl
      · exact ⟨0, rfl, by decide, by decide⟩
      · exact ⟨1, rfl, by decide, by decide⟩
      · exact ⟨1, rfl, by decide, by decide⟩
      · exact ⟨2, rfl, by decide, by decide⟩
    obtain ⟨k, hk⟩ : ∃ k : Nat, 1 + i = (k : Int) := ⟨(1 + i).toNat, by omega⟩
    refine rI0_to (v := V.int k) (congrArg V.int hk) ?_
    have k1 : 1 ≤ k := by omega
    have k3 : k ≤ 3 := by omega
    refine ⟨_, rfl, (k : Int), rfl, by omega, by omega, fun D hD => ?_⟩
    have Dz := z3.ne hD
    refine walk_core (walk_range (lo := 0) (n := (k : Int).toNat)) (fun j F => ∃ R : List AU, R.length = j ∧ (∀ x ∈ R.map (·.2), Cok x) ∧ But z G3 F ∧ Src z F ∧ F D = some (.lst (urefs R)) ∧ (∀ r ∈ R, F r.1 = some (.tup [.int r.2.1, .int r.2.2]))) ⟨[], rfl, (fun x hx => by cases hx), But.new hD, z3.upd Dz, upd_same, fun r hr => by cases hr⟩ (fun _ _ _ _ => trivial) ?_ ?_
    · rintro j y F F' hj ⟨R, lR, oR, bF, zF, hR, tR⟩ ⟨rfl, rfl⟩
      refine ⟨rfl, _, rfl, z, rfl, zF, fun q1 x F2 b3 z3 qz fq hq hx => ?_⟩
      have hR2 := b3 _ _ Dz trivial hR
      have tD : ∀ (b : Addr) xs, F2 b = some (.tup xs) → upd F2 D (.lst (urefs R ++ [.ref q1])) b = some (.tup xs) := fun b xs h => by
        rw [upd_ne fun e => by rw [e, hR2] at h; cases h]
        exact h
      refine ⟨_, hR2, small1000 (by unfold urefs; rw [List.length_map]; omega), R ++ [(q1, x)], by rw [List.length_append, lR]; rfl, fun y hy => ?_, But.sup hD (bF.trans b3), z3.upd Dz, by rw [upd_same]; unfold urefs; rw [List.map_append]; rfl, fun r hr => ?_⟩
      · rw [List.map_append] at hy
        rcases List.mem_append.mp hy with h | h
        · exact oR y h
        · rw [List.map_singleton, List.mem_singleton] at h
          rw [h]
          exact hx
      · rcases List.mem_append.mp hr with h | h
        · exact tD _ _ (tup_z (tR r h) zF b3)
        · rw [List.mem_singleton] at h
          rw [h]
          exact tD _ _ hq
    rintro G4 ⟨R, lR, oR, b4, z4, hR, tR⟩
    have lR : R.length = k := lR
    have uo : Upok (R.map (·.2)) := ⟨by rw [List.length_map]; omega, oR⟩
    have t4 := tabs_but b4 z3 t3
    refine ⟨_, rfl, z, rfl, z4, fun sa s G5 b5 z5 sz sf hs cs => ?_⟩
    have t5 := tabs_but b5 z4 t4
    have hR5 := b5 _ _ Dz trivial hR
    have tR5 : ∀ r ∈ R, G5 r.1 = some (.tup [.int r.2.1, .int r.2.2]) := fun r hr => tup_z (tR r hr) z4 b5
    refine ⟨by show 2 ≤ sizeLine; decide, fun tp htp => ?_⟩
    have s6 := same_up (o := .tup [V.ref D, .ref sa]) htp
    have f6 : upd G5 tp (.tup [V.ref D, .ref sa]) tp = some (.tup [V.ref D, .ref sa]) := upd_same
    generalize upd G5 tp (.tup [V.ref D, .ref sa]) = G6 at s6 f6 ⊢
    have z6 := z5.same s6
    have t6 := t5.ext s6
    have hR6 := s6 _ _ hR5
    have tR6 : ∀ r ∈ R, G6 r.1 = some (.tup [.int r.2.1, .int r.2.2]) := fun r hr => s6 _ _ (tR5 r hr)
    have hs6 : Share G6 sa s := s6 _ _ hs
    refine ⟨tp, _, rfl, SqT.of f6, rfl, _, _, rfl, _, _, rfl, rfl, ?_⟩
    refine ⟨_, rfl, z, 2, rfl, z6, by decide, by decide, fun un G7 u0 u1 b7 z7 => ?_⟩
    have t7 := tabs_but b7 z6 t6
    have hR7 := b7 _ _ Dz trivial hR6
    have tR7 : ∀ r ∈ R, G7 r.1 = some (.tup [.int r.2.1, .int r.2.2]) := fun r hr => tup_z (tR6 r hr) z6 b7
    have hs7 : Share G7 sa s := tup_z hs6 z6 b7
    refine ⟨_, rfl, _, rfl, _, rfl, D, sa, un, R, s, rfl, u0, by omega, hR7, tR7, uo, by omega, by omega, hs7, Cok.sh cs, fun dv G8 s8 hdv => ?_⟩
    have t8 := t7.ext s8
    have z8 := z7.same s8
    have ups8 : UpsB G8 D R := ⟨.inl (s8 _ _ hR7), fun r hr => s8 _ _ (tR7 r hr)⟩
    have hs8 : Share G8 sa s := s8 _ _ hs7
    have l100 : ∀ os, some (uOL R) = some os → os.length ≤ 100 := fun os e => by
      cases e
      rw [uOL_len]
      omega
    have wno : ∀ {X : Prop}, okW (some (uOL R)) = false → X := fun no => by
      rw [okW_ups uo (by omega) (by omega)] at no
      cases no
    refine ⟨_, rfl, _, rfl, _, rfl, .ref D, .int un, .ref sa, rfl, _, wz_ups ups8, l100, wno, fun os e _ => ?_⟩
    cases e
    have ul : (uOL R).length = k := by rw [uOL_len, lR]
    refine cku_ok u0 (by rw [ul]; omega) (ckh_ok hs8 cs ⟨D, R, un, sa, s, rfl, rfl, rfl, ups8, (uOL_len R).symm, uo, u0, by omega, hs8, cs, t8, fun v G9 e9 t9 hv => ?_⟩)
    have sw : Shw (bvD (s.2 * botN (R.map (·.2)) R.length) (bestU (R.map (·.2)) s un.toNat R.length)) := bv_shw uo (Cok.sh cs) (List.length_map _) (by omega)
    have d1 := bv_dw hv
    have d2 := bv_dw (bv_ext e9 hdv)
    generalize bvD (s.2 * botN (R.map (·.2)) R.length) (bestU (R.map (·.2)) s un.toNat R.length) = bd at sw d1 d2
    refine ⟨v, bd, rfl, d1, sw, _, rfl, dv, bd, rfl, d2, sw, rfl, _, rfl, ?_⟩
    rw [show (!decide (V.str bd.shown = V.str bd.shown)) = false from by simp]
    refine iteF ?_
    have z9 := z8.ext e9
    have ups9 := ups8.ext e9
    clear d1 d2 hv hdv
    refine ⟨_, rfl, z, 8, rfl, z9, by decide, by decide, fun r G10 r0 r1 b10 z10 => ⟨rfl, _, rfl, ?_⟩⟩
    have t10 := tabs_but b10 z9 t9
    have hR10 : G10 D = some (.lst (urefs R)) := b10 _ _ Dz trivial (ext_at e9 (s8 _ _ hR7))
    have tR10 : ∀ r ∈ R, G10 r.1 = some (.tup [.int r.2.1, .int r.2.2]) := fun r hr => tup_z (ups9.2 r hr) z9 b10
    refine four_step (z := z) rfl z10 t10 fun F tF k1_ k2_ => iteF ?_
    have upsF : UpsB F D R := ⟨.inl (k2_ _ _ Dz hR10), fun r hr => k1_ _ _ (tR10 r hr)⟩
    refine ne_triedM (K := K) (w := "chances") (C := c.h) (e := fiveD) (.inr ⟨rfl, rfl⟩) tF (fun E H1 Q' x1 T1 r => ?raise) five_sm (fun H1 Q' x1 q' => ?right) fun F2 e2 t2 => iteF ?_
    case raise =>
      show tOp _ _ _ _ _ _
      refine five_read fun m G sG hm => ?_
      obtain ⟨R5, u5, l5⟩ := hm.ups
      refine ⟨.ref m, .non, .non, rfl, _, wz_ups u5, (fun os e => ?_), (fun _ => r _ _ sG ⟨five_sm, hm.dw⟩), fun os e ok => ?_⟩
      · cases e
        rw [uOL_len, l5]
        decide
      · rw [okW_long (by omega)] at ok
        cases ok
    case right =>
      show tOp _ _ _ _ _ _
      refine five_read fun m G sG hm => ?_
      exact ⟨.ref m, fiveD, rfl, hm.dw, (smd_ok five_sm).1, by show 2 ≤ sizeLine; decide, fun p2 hp2 => q' p2 _ (sG.trans (same_up hp2)) upd_same⟩
    have ups2 := upsF.ext e2
    have sm1 : SmD (.int ((k : Int) + 1)) := sm_int (by omega) (by omega)
    have odn : ∀ H1 : Hp, OdV H1 (.int ((k : Int) + 1)) (.int ((k : Int) + 1)) := fun H1 => .fl sm1 (.int _)
    refine eq_tried (K := K) (w := "count") (C := c.n) (e := .int ((k : Int) + 1)) (v := .int ((k : Int) + 1)) (.inl ⟨rfl, rfl⟩) t2 (fun E H1 Q' x1 T1 r => ⟨_, rfl, _, rfl, _, _, rfl, rfl, .ref D, .int ((k : Int) + 1), .non, rfl, _, wz_ups (ups2.ext x1), l100, wno, fun os e _ => by
      cases e
      exact cku_hi (by rw [ul]; omega) r⟩) (fun H1 _ => odn H1) (fun H1 Q' x1 q' => ⟨_, rfl, _, _, rfl, rfl, .int ((k : Int) + 1), .int ((k : Int) + 1), rfl, (odn H1).2, (smd_ok sm1).1, by show 2 ≤ sizeLine; decide, fun p2 hp2 => q' p2 _ (same_up hp2) upd_same⟩) fun G' _ _ => q G'
end
end Pl

namespace Pl
open L2 PySem PySem.Spec PyProof.Rows
/-- a def of the top, under its name -/
def AtD (K : PySem.W.Frag) (x : Str) (st : Stmt) : Prop := ∃ (f : Addr) (fd : FuncData), PySem.W.nsIn K mainGlobals x = some (some (.ref f)) ∧ Fun K x x st f fd
def tbX (cs : List (Addr × Addr)) (a b c : Str) : TbL := (cs.map fun q => q.2).zip [a, b, c]
theorem tbX3 {c1 c2 c3 P1 P2 P3 : Addr} {a b c : Str} : tbX [(c1, P1), (c2, P2), (c3, P3)] a b c = [(P1, a), (P2, b), (P3, c)] := rfl
def tbOf (cs : List (Addr × Addr)) : TbL := tbX cs lamA lamH lamR
section
variable {α β : Type} {p q r : α × β} {P1 P2 P3 : α} {a b c : β}
theorem hm1 : p ∈ [p, q, r] := List.mem_cons_self
theorem hm2 : q ∈ [p, q, r] := List.mem_cons_of_mem _ List.mem_cons_self
theorem hm3 : r ∈ [p, q, r] := List.mem_cons_of_mem _ (List.mem_cons_of_mem _ List.mem_cons_self)
theorem hu1 (h12 : P1 ≠ P2) (h13 : P1 ≠ P3) : ∀ t ∈ [(P1, a), (P2, b), (P3, c)], t.1 = P1 → t.2 = a := fun t ht e => by
  simp only [List.mem_cons, List.not_mem_nil, or_false] at ht
  rcases ht with h | h | h
  · subst h; exact rfl
  · subst h; exact absurd e.symm h12
  · subst h; exact absurd e.symm h13
theorem hu2 (h12 : P1 ≠ P2) (h23 : P2 ≠ P3) : ∀ t ∈ [(P1, a), (P2, b), (P3, c)], t.1 = P2 → t.2 = b := fun t ht e => by
  simp only [List.mem_cons, List.not_mem_nil, or_false] at ht
  rcases ht with h | h | h
  · subst h; exact absurd e h12
  · subst h; exact rfl
  · subst h; exact absurd e.symm h23
theorem hu3 (h13 : P1 ≠ P3) (h23 : P2 ≠ P3) : ∀ t ∈ [(P1, a), (P2, b), (P3, c)], t.1 = P3 → t.2 = c := fun t ht e => by
  simp only [List.mem_cons, List.not_mem_nil, or_false] at ht
  rcases ht with h | h | h
  · subst h; exact absurd e h13
  · subst h; exact absurd e h23
  · subst h; exact rfl
end
theorem all3 {p : Addr × Addr → Prop} {a b c : Addr × Addr} (h1 : p a) (h2 : p b) (h3 : p c) : ∀ q ∈ [a, b, c], p q := fun q hq => by
  simp only [List.mem_cons, List.not_mem_nil, or_false] at hq
  rcases hq with rfl | rfl | rfl
  · exact h1
  · exact h2
  · exact h3
theorem tbOf_tabs {cs : List (Addr × Addr)} {H : Hp} (h : ∀ q ∈ cs, H q.2 = some (.tbl #[])) : LamX.Tabs (tbOf cs) H := fun p hp => by
  obtain ⟨a, b⟩ := p
  obtain ⟨q, hq, e⟩ := List.mem_map.mp (List.of_mem_zip hp).1
  have e' : q.2 = a := e
  exact LamX.TabS.nil (e' ▸ h q hq)
theorem walkP {l : PySem.W.OpenLaw} {n : Nat} {qp : Program} {loose : List Str} {XP : (Str → Option Value) → Heap → Prop} {YP : World → Heap → Prop} {d : DefRec} {K : Params → PySem.W.Frag}
    (hn : l.most = some n) (hn2 : n ≤ sizeLine) (hdf : d.params.defaults = []) (hY : ∀ (w : World) (h : Heap), YP w h → (K w.params).In h)
    (F : ∀ (w : World) (mg : Str → Option Value) (fa : Addr) (h : Heap), YP w h → (K w.params).In h → h.Ns mainGlobals mg → mg d.name = some (.ref fa) → LawM l w (K w.params) mg fa h 10 (fun cs => spLaw (K w.params) (tbOf cs))) :
    PySem.W.WalkO qp loose XP YP l.row.toRowW d [] (fun f vs => PySem.call f vs) :=
  walkM (sp := fun w cs => spLaw (K w.params) (tbOf cs)) hn hn2 hdf ⟨rfl, by decide, by decide⟩ hY (fun w cs H a ns hH seq => ⟨a, ns, rfl, seq, tbOf_tabs hH, fun _ => rfl⟩) F
theorem all_mk {l : PySem.W.OpenLaw} {w : World} {K : PySem.W.Frag} {h : Heap} {mg : Str → Option Value} {fa : Addr} (X : K.In h) (G : h.Ns mainGlobals mg) (hfa : mg "law" = some (.ref fa))
    {tk1 tk2 tk3 tk4 : Tok} {ft1 ct1 Pt1 : Addr} {odt1 ant1 odc1 : Option Addr} {slt1 slc1 : Array (Option Value)} {oct1 kVt1 dct1 pmt1 ctt1 : Value} {vsC1 : Array Value} {ft2 ct2 Pt2 : Addr} {odt2 ant2 odc2 : Option Addr} {slt2 slc2 : Array (Option Value)} {oct2 kVt2 dct2 pmt2 ctt2 : Value} {vsC2 : Array Value} {ft3 ct3 Pt3 : Addr} {odt3 ant3 odc3 : Option Addr} {slt3 slc3 : Array (Option Value)} {oct3 kVt3 dct3 pmt3 ctt3 : Value} {vsC3 : Array Value} {ft4 ct4 : Addr} {odt4 ant4 : Option Addr} {slt4 : Array (Option Value)} {oct4 kVt4 dct4 pmt4 ctt4 : Value} {C_n fI_n S_n N_n : Addr} {odI_n anI_n dd_n : Option Addr} {slI_n : Array (Option Value)} {ocI_n kVI_n dcI_n pmI_n cdI_n ctI_n : Value} {nm_n q_n : Str} {bs_n sub_n : List Value} {sn_n : List Str} {ab_n : Bool} {col_n : Option Bool} {u0_n u1_n u2_n u3_n u5_n : Option Value} {C_h fI_h S_h N_h : Addr} {odI_h anI_h dd_h : Option Addr} {slI_h : Array (Option Value)} {ocI_h kVI_h dcI_h pmI_h cdI_h ctI_h : Value} {nm_h q_h : Str} {bs_h sub_h : List Value} {sn_h : List Str} {ab_h : Bool} {col_h : Option Bool} {u0_h u1_h u2_h u3_h u5_h : Option Value} {C_q : Addr} {C_l : Addr} {C_c : Addr} {C_b : Addr} {C_k : Addr} {C_v : Addr} {C_e : Addr} {C_r0 : Addr} {C_r1 : Addr} {C_r2 : Addr} {C_r3 : Addr} {C_r4 : Addr}
    (A0 : AtD K "is_number" sIsNumber)
    (A1 : AtD K "is_within" sIsWithin)
    (A2 : AtD K "is_ratio" sIsRatio)
    (A3 : AtD K "is_chance" sIsChance)
    (A4 : AtD K "lowered" sLowered)
    (A5 : AtD K "_is_small" sIsSmall)
    (A6 : AtD K "best_counts" sBestC)
    (A7 : AtD K "best_votes" sBestV)
    (A8 : AtD K "check_unruly" sCkUnruly)
    (A9 : AtD K "votes_of" sVotesOf)
    (A10 : AtD K "_lots_of" sLotsOf)
    (A11 : AtD K "_sure_votes" sSure)
    (A12 : AtD K "_are_chances" sAreCh)
    (A13 : AtD K "_check_chance" sCkChance)
    (A14 : AtD K "_weights" sWeights)
    (A15 : AtD K "_at_least" sAtLeast)
    (A16 : AtD K "_worth" sWorth)
    (A17 : AtD K "_votes_to_try" sTry)
    (A18 : AtD K "_worths_by_need" sByNeed)
    (A19 : AtD K "_law_pool" sPool)
    (A20 : AtD K "_law_take" sTake)
    (A21 : AtD K "_law_one" sOne)
    (A22 : AtD K "_law_all_lots" sLAll)
    (A23 : AtD K "_law_caught" sCaught)
    (A24 : AtD K "_law_sum" sLSum)
    (A25 : AtD K "_law_sure" sLSure)
    (A26 : AtD K "_law_is_enough" sLEnough)
    (A27 : AtD K "_law_lowered" sLLow)
    (A28 : AtD K "_law_chance" sLChance)
    (A29 : AtD K "_law_weight" sLWeight)
    (A30 : AtD K "_law_up" sLUp)
    (A31 : AtD K "_law_counts" sLCounts)
    (A32 : AtD K "_law_longer" sLLonger)
    (A33 : AtD K "_law_all_votes" sLAllV)
    (A34 : AtD K "_law_worth" sLWorth)
    (A35 : AtD K "_law_votes_due" sLDue)
    (z_isinstance : PySem.W.nsIn K mainGlobals "isinstance" = some none)
    (z_len : PySem.W.nsIn K mainGlobals "len" = some none)
    (z_int : PySem.W.nsIn K mainGlobals "int" = some none)
    (z_bool : PySem.W.nsIn K mainGlobals "bool" = some none)
    (z_list : PySem.W.nsIn K mainGlobals "list" = some none)
    (z_tuple : PySem.W.nsIn K mainGlobals "tuple" = some none)
    (z_set : PySem.W.nsIn K mainGlobals "set" = some none)
    (z_range : PySem.W.nsIn K mainGlobals "range" = some none)
    (z_max : PySem.W.nsIn K mainGlobals "max" = some none)
    (z_min : PySem.W.nsIn K mainGlobals "min" = some none)
    (z_repr : PySem.W.nsIn K mainGlobals "repr" = some none)
    (z_enumerate : PySem.W.nsIn K mainGlobals "enumerate" = some none)
    (z_sorted : PySem.W.nsIn K mainGlobals "sorted" = some none)
    (z_all : PySem.W.nsIn K mainGlobals "all" = some none)
    (z_any : PySem.W.nsIn K mainGlobals "any" = some none)
    (z_zip : PySem.W.nsIn K mainGlobals "zip" = some none)
    (z_sum : PySem.W.nsIn K mainGlobals "sum" = some none)
    (g_copies : PySem.W.nsIn K mainGlobals "MOST_COPIES" = some (some (.int 5 tk1)))
    (g_copiesT : PySem.W.nsIn K mainGlobals "MOST_COPIES_TRIED" = some (some (.int 4 tk2)))
    (g_votesT : PySem.W.nsIn K mainGlobals "MOST_VOTES_TRIED" = some (some (.int 3 tk4)))
    (g_gcd : PySem.W.nsIn K mainGlobals "gcd" = some (some (.builtin "math.gcd")))
    (g_gr : PySem.W.nsIn K mainGlobals "GREATEST_HANDED_IN" = some (some (.int 20 tk3)))
    (nt1 : PySem.W.nsIn K mainGlobals "all_lots" = some (some (.ref ft1)))
    (lt1 : K.lookup ft1 = some ⟨oct1, odt1, .func (PySem.W.fnOf "all_lots" "all_lots" (defArgs sAllLots) (defBody sAllLots) (defScope sAllLots) .none kVt1 dct1 pmt1 ant1 (.ref ct1) ctt1), slt1⟩)
    (ck1 : PySem.W.codeIn K (.ref ct1) "all_lots" = true)
    (kk1 : PySem.W.keepIn K (.ref ft1) = true)
    (lc1 : K.lookup ct1 = some ⟨.type "code", odc1, .fields vsC1, slc1⟩)
    (hP1 : vsC1[11]? = some (.ref Pt1))
    (hcd1 : PySem.W.codeHdIn K ct1 Pt1 = true)
    (notK1 : K.lookup Pt1 = none)
    (tab1 : h.get? Pt1 = some { cls := .none, data := .fields #[] })
    (nt2 : PySem.W.nsIn K mainGlobals "_heaviest" = some (some (.ref ft2)))
    (lt2 : K.lookup ft2 = some ⟨oct2, odt2, .func (PySem.W.fnOf "_heaviest" "_heaviest" (defArgs sHeavy) (defBody sHeavy) (defScope sHeavy) .none kVt2 dct2 pmt2 ant2 (.ref ct2) ctt2), slt2⟩)
    (ck2 : PySem.W.codeIn K (.ref ct2) "_heaviest" = true)
    (kk2 : PySem.W.keepIn K (.ref ft2) = true)
    (lc2 : K.lookup ct2 = some ⟨.type "code", odc2, .fields vsC2, slc2⟩)
    (hP2 : vsC2[11]? = some (.ref Pt2))
    (hcd2 : PySem.W.codeHdIn K ct2 Pt2 = true)
    (notK2 : K.lookup Pt2 = none)
    (tab2 : h.get? Pt2 = some { cls := .none, data := .fields #[] })
    (nt3 : PySem.W.nsIn K mainGlobals "law" = some (some (.ref ft3)))
    (lt3 : K.lookup ft3 = some ⟨oct3, odt3, .func (PySem.W.fnOf "law" "law" (defArgs sLaw) (defBody sLaw) (defScope sLaw) .none kVt3 dct3 pmt3 ant3 (.ref ct3) ctt3), slt3⟩)
    (ck3 : PySem.W.codeIn K (.ref ct3) "law" = true)
    (kk3 : PySem.W.keepIn K (.ref ft3) = true)
    (lc3 : K.lookup ct3 = some ⟨.type "code", odc3, .fields vsC3, slc3⟩)
    (hP3 : vsC3[11]? = some (.ref Pt3))
    (hcd3 : PySem.W.codeHdIn K ct3 Pt3 = true)
    (notK3 : K.lookup Pt3 = none)
    (tab3 : h.get? Pt3 = some { cls := .none, data := .fields #[] })
    (nt4 : PySem.W.nsIn K mainGlobals "_law_four_right" = some (some (.ref ft4)))
    (lt4 : K.lookup ft4 = some ⟨oct4, odt4, .func (PySem.W.fnOf "_law_four_right" "_law_four_right" (defArgs sLFour) (defBody sLFour) (defScope sLFour) .none kVt4 dct4 pmt4 ant4 (.ref ct4) ctt4), slt4⟩)
    (ck4 : PySem.W.codeIn K (.ref ct4) "_law_four_right" = true)
    (kk4 : PySem.W.keepIn K (.ref ft4) = true)
    (ne12 : Pt1 ≠ Pt2)
    (ne13 : Pt1 ≠ Pt3)
    (ne23 : Pt2 ≠ Pt3)
    (nCn : PySem.W.nsIn K mainGlobals "NoCount" = some (some (.ref C_n)))
    (xLn : K.lookup C_n = some (excClassObj nm_n q_n C_n N_n bs_n [.ref S_n, .type "ValueError", .type "Exception", .type "BaseException", .type "object"] true sn_n sub_n ab_n col_n dd_n u0_n u1_n u2_n u3_n u5_n "ValueError.__new__"))
    (x5n : PySem.W.findIn K (.ref C_n) "__setattr__" = some (some (.builtin "object.__setattr__")))
    (x6n : PySem.W.typeIn K (.ref C_n) = some (.type "type"))
    (x7n : PySem.W.keepIn K (.ref C_n) = true)
    (iIn : PySem.W.findIn K (.ref C_n) "__init__" = some (some (.ref fI_n)))
    (tIn : PySem.W.typeIn K (.ref fI_n) = some (.type "function"))
    (nTn : PySem.W.findIn K (.ref C_n) "told" = some none)
    (lIn : K.lookup fI_n = some ⟨ocI_n, odI_n, .func (PySem.W.fnOf "__init__" "NoCount.__init__" (defArgs (inClass (top 8) 0)) (defBody (inClass (top 8) 0)) (defScope (inClass (top 8) 0)) .none kVI_n dcI_n pmI_n anI_n cdI_n ctI_n), slI_n⟩)
    (cIn : PySem.W.codeIn K cdI_n "NoCount.__init__" = true)
    (kIn : PySem.W.keepIn K (.ref fI_n) = true)
    (x1n : PySem.W.findIn K (.ref C_n) "__getattribute__" = some (some (.builtin "BaseException.__getattribute__")))
    (x2n : PySem.W.findIn K (.ref C_n) "__getattr__" = some none)
    (x3n : PySem.W.subIn K (.ref C_n) (.type "BaseException") = some true)
    (x4n : PySem.W.hasDictIn K C_n = true)
    (nCh : PySem.W.nsIn K mainGlobals "NoChances" = some (some (.ref C_h)))
    (xLh : K.lookup C_h = some (excClassObj nm_h q_h C_h N_h bs_h [.ref S_h, .type "ValueError", .type "Exception", .type "BaseException", .type "object"] true sn_h sub_h ab_h col_h dd_h u0_h u1_h u2_h u3_h u5_h "ValueError.__new__"))
    (x5h : PySem.W.findIn K (.ref C_h) "__setattr__" = some (some (.builtin "object.__setattr__")))
    (x6h : PySem.W.typeIn K (.ref C_h) = some (.type "type"))
    (x7h : PySem.W.keepIn K (.ref C_h) = true)
    (iIh : PySem.W.findIn K (.ref C_h) "__init__" = some (some (.ref fI_h)))
    (tIh : PySem.W.typeIn K (.ref fI_h) = some (.type "function"))
    (nTh : PySem.W.findIn K (.ref C_h) "told" = some none)
    (lIh : K.lookup fI_h = some ⟨ocI_h, odI_h, .func (PySem.W.fnOf "__init__" "NoChances.__init__" (defArgs (inClass (top 14) 0)) (defBody (inClass (top 14) 0)) (defScope (inClass (top 14) 0)) .none kVI_h dcI_h pmI_h anI_h cdI_h ctI_h), slI_h⟩)
    (cIh : PySem.W.codeIn K cdI_h "NoChances.__init__" = true)
    (kIh : PySem.W.keepIn K (.ref fI_h) = true)
    (x1h : PySem.W.findIn K (.ref C_h) "__getattribute__" = some (some (.builtin "BaseException.__getattribute__")))
    (x2h : PySem.W.findIn K (.ref C_h) "__getattr__" = some none)
    (x3h : PySem.W.subIn K (.ref C_h) (.type "BaseException") = some true)
    (x4h : PySem.W.hasDictIn K C_h = true)
    (nCq : PySem.W.nsIn K mainGlobals "NoPast" = some (some (.ref C_q)))
    (x3q : PySem.W.subIn K (.ref C_q) (.type "BaseException") = some true)
    (x4q : PySem.W.hasDictIn K C_q = true)
    (x6q : PySem.W.typeIn K (.ref C_q) = some (.type "type"))
    (nCl : PySem.W.nsIn K mainGlobals "NoLot" = some (some (.ref C_l)))
    (x3l : PySem.W.subIn K (.ref C_l) (.type "BaseException") = some true)
    (x4l : PySem.W.hasDictIn K C_l = true)
    (x6l : PySem.W.typeIn K (.ref C_l) = some (.type "type"))
    (nCc : PySem.W.nsIn K mainGlobals "NoChange" = some (some (.ref C_c)))
    (x3c : PySem.W.subIn K (.ref C_c) (.type "BaseException") = some true)
    (x4c : PySem.W.hasDictIn K C_c = true)
    (x6c : PySem.W.typeIn K (.ref C_c) = some (.type "type"))
    (nCb : PySem.W.nsIn K mainGlobals "NothingBack" = some (some (.ref C_b)))
    (x3b : PySem.W.subIn K (.ref C_b) (.type "BaseException") = some true)
    (x4b : PySem.W.hasDictIn K C_b = true)
    (x6b : PySem.W.typeIn K (.ref C_b) = some (.type "type"))
    (nCk : PySem.W.nsIn K mainGlobals "NoCopies" = some (some (.ref C_k)))
    (x3k : PySem.W.subIn K (.ref C_k) (.type "BaseException") = some true)
    (x4k : PySem.W.hasDictIn K C_k = true)
    (x6k : PySem.W.typeIn K (.ref C_k) = some (.type "type"))
    (nCv : PySem.W.nsIn K mainGlobals "NoVotes" = some (some (.ref C_v)))
    (x3v : PySem.W.subIn K (.ref C_v) (.type "BaseException") = some true)
    (x4v : PySem.W.hasDictIn K C_v = true)
    (x6v : PySem.W.typeIn K (.ref C_v) = some (.type "type"))
    (nCe : PySem.W.nsIn K mainGlobals "NoNeed" = some (some (.ref C_e)))
    (x3e : PySem.W.subIn K (.ref C_e) (.type "BaseException") = some true)
    (x4e : PySem.W.hasDictIn K C_e = true)
    (x6e : PySem.W.typeIn K (.ref C_e) = some (.type "type"))
    (nCr0 : PySem.W.nsIn K mainGlobals "NoEdit" = some (some (.ref C_r0)))
    (nCr1 : PySem.W.nsIn K mainGlobals "NoKey" = some (some (.ref C_r1)))
    (nCr2 : PySem.W.nsIn K mainGlobals "NoName" = some (some (.ref C_r2)))
    (nCr3 : PySem.W.nsIn K mainGlobals "NoMoment" = some (some (.ref C_r3)))
    (nCr4 : PySem.W.nsIn K mainGlobals "TooMany" = some (some (.ref C_r4)))
    (snn : PySem.W.subIn K (.ref C_n) (.ref C_n) = some true)
    (shn : PySem.W.subIn K (.ref C_h) (.ref C_n) = some false)
    (shh : PySem.W.subIn K (.ref C_h) (.ref C_h) = some true)
    (shq : PySem.W.subIn K (.ref C_h) (.ref C_q) = some false)
    (shl : PySem.W.subIn K (.ref C_h) (.ref C_l) = some false)
    (shc : PySem.W.subIn K (.ref C_h) (.ref C_c) = some false)
    (shb : PySem.W.subIn K (.ref C_h) (.ref C_b) = some false)
    (shk : PySem.W.subIn K (.ref C_h) (.ref C_k) = some false)
    (shv : PySem.W.subIn K (.ref C_h) (.ref C_v) = some false)
    (she : PySem.W.subIn K (.ref C_h) (.ref C_e) = some false) : LawM l w K mg fa h 10 (fun cs => spLaw K (tbOf cs)) := by
  obtain ⟨f0, fd0, n0_, F0⟩ := A0
  obtain ⟨f1, fd1, n1_, F1⟩ := A1
  obtain ⟨f2, fd2, n2_, F2⟩ := A2
  obtain ⟨f3, fd3, n3_, F3⟩ := A3
  obtain ⟨f4, fd4, n4_, F4⟩ := A4
  obtain ⟨f5, fd5, n5_, F5⟩ := A5
  obtain ⟨f6, fd6, n6_, F6⟩ := A6
  obtain ⟨f7, fd7, n7_, F7⟩ := A7
  obtain ⟨f8, fd8, n8_, F8⟩ := A8
  obtain ⟨f9, fd9, n9_, F9⟩ := A9
  obtain ⟨f10, fd10, n10_, F10⟩ := A10
  obtain ⟨f11, fd11, n11_, F11⟩ := A11
  obtain ⟨f12, fd12, n12_, F12⟩ := A12
  obtain ⟨f13, fd13, n13_, F13⟩ := A13
  obtain ⟨f14, fd14, n14_, F14⟩ := A14
  obtain ⟨f15, fd15, n15_, F15⟩ := A15
  obtain ⟨f16, fd16, n16_, F16⟩ := A16
  obtain ⟨f17, fd17, n17_, F17⟩ := A17
  obtain ⟨f18, fd18, n18_, F18⟩ := A18
  obtain ⟨f19, fd19, n19_, F19⟩ := A19
  obtain ⟨f20, fd20, n20_, F20⟩ := A20
  obtain ⟨f21, fd21, n21_, F21⟩ := A21
  obtain ⟨f22, fd22, n22_, F22⟩ := A22
  obtain ⟨f23, fd23, n23_, F23⟩ := A23
  obtain ⟨f24, fd24, n24_, F24⟩ := A24
  obtain ⟨f25, fd25, n25_, F25⟩ := A25
  obtain ⟨f26, fd26, n26_, F26⟩ := A26
  obtain ⟨f27, fd27, n27_, F27⟩ := A27
  obtain ⟨f28, fd28, n28_, F28⟩ := A28
  obtain ⟨f29, fd29, n29_, F29⟩ := A29
  obtain ⟨f30, fd30, n30_, F30⟩ := A30
  obtain ⟨f31, fd31, n31_, F31⟩ := A31
  obtain ⟨f32, fd32, n32_, F32⟩ := A32
  obtain ⟨f33, fd33, n33_, F33⟩ := A33
  obtain ⟨f34, fd34, n34_, F34⟩ := A34
  obtain ⟨f35, fd35, n35_, F35⟩ := A35
  have M0 := PySem.W.mg_of X G n0_
  have b0 := F0.binds (ps := ["value"]) fun _ _ _ _ _ _ us hl => match us, hl with | [_], _ => rfl
  have M1 := PySem.W.mg_of X G n1_
  have b1 := F1.binds (ps := ["value", "least", "most"]) fun _ _ _ _ _ _ us hl => match us, hl with | [_, _, _], _ => rfl
  have M2 := PySem.W.mg_of X G n2_
  have b2 := F2.binds (ps := ["value"]) fun _ _ _ _ _ _ us hl => match us, hl with | [_], _ => rfl
  have M3 := PySem.W.mg_of X G n3_
  have b3 := F3.binds (ps := ["value"]) fun _ _ _ _ _ _ us hl => match us, hl with | [_], _ => rfl
  have M4 := PySem.W.mg_of X G n4_
  have b4 := F4.binds (ps := ["top", "bottom"]) fun _ _ _ _ _ _ us hl => match us, hl with | [_, _], _ => rfl
  have M5 := PySem.W.mg_of X G n5_
  have b5 := F5.binds (ps := ["value"]) fun _ _ _ _ _ _ us hl => match us, hl with | [_], _ => rfl
  have M6 := PySem.W.mg_of X G n6_
  have b6 := F6.binds (ps := ["count", "unruly", "up", "share"]) fun _ _ _ _ _ _ us hl => match us, hl with | [_, _, _, _], _ => rfl
  have M7 := PySem.W.mg_of X G n7_
  have b7 := F7.binds (ps := ["ups", "unruly", "share"]) fun _ _ _ _ _ _ us hl => match us, hl with | [_, _, _], _ => rfl
  have M8 := PySem.W.mg_of X G n8_
  have b8 := F8.binds (ps := ["unruly", "count"]) fun _ _ _ _ _ _ us hl => match us, hl with | [_, _], _ => rfl
  have M9 := PySem.W.mg_of X G n9_
  have b9 := F9.binds (ps := ["votes", "lot"]) fun _ _ _ _ _ _ us hl => match us, hl with | [_, _], _ => rfl
  have M10 := PySem.W.mg_of X G n10_
  have b10 := F10.binds (ps := ["count"]) fun _ _ _ _ _ _ us hl => match us, hl with | [_], _ => rfl
  have M11 := PySem.W.mg_of X G n11_
  have b11 := F11.binds (ps := ["votes", "unruly", "lot"]) fun _ _ _ _ _ _ us hl => match us, hl with | [_, _, _], _ => rfl
  have M12 := PySem.W.mg_of X G n12_
  have b12 := F12.binds (ps := ["value"]) fun _ _ _ _ _ _ us hl => match us, hl with | [_], _ => rfl
  have M13 := PySem.W.mg_of X G n13_
  have b13 := F13.binds (ps := ["value"]) fun _ _ _ _ _ _ us hl => match us, hl with | [_], _ => rfl
  have M14 := PySem.W.mg_of X G n14_
  have b14 := F14.binds (ps := ["lots", "ups"]) fun _ _ _ _ _ _ us hl => match us, hl with | [_, _], _ => rfl
  have M15 := PySem.W.mg_of X G n15_
  have b15 := F15.binds (ps := ["weights", "count"]) fun _ _ _ _ _ _ us hl => match us, hl with | [_, _], _ => rfl
  have M16 := PySem.W.mg_of X G n16_
  have b16 := F16.binds (ps := ["share", "readable", "writable"]) fun _ _ _ _ _ _ us hl => match us, hl with | [_, _, _], _ => rfl
  have M17 := PySem.W.mg_of X G n17_
  have b17 := F17.binds (ps := ["count"]) fun _ _ _ _ _ _ us hl => match us, hl with | [_], _ => rfl
  have M18 := PySem.W.mg_of X G n18_
  have b18 := F18.binds (ps := ["votes", "unruly", "weights", "share"]) fun _ _ _ _ _ _ us hl => match us, hl with | [_, _, _, _], _ => rfl
  have M19 := PySem.W.mg_of X G n19_
  have b19 := F19.binds (ps := ["_law_script", "_law_k"]) fun _ _ _ _ _ _ us hl => match us, hl with | [_, _], _ => rfl
  have M20 := PySem.W.mg_of X G n20_
  have b20 := F20.binds (ps := ["_law_source", "_law_top"]) fun _ _ _ _ _ _ us hl => match us, hl with | [_, _], _ => rfl
  have M21 := PySem.W.mg_of X G n21_
  have b21 := F21.binds (ps := ["_law_source", "_law_things"]) fun _ _ _ _ _ _ us hl => match us, hl with | [_, _], _ => rfl
  have M22 := PySem.W.mg_of X G n22_
  have b22 := F22.binds (ps := ["_law_many"]) fun _ _ _ _ _ _ us hl => match us, hl with | [_], _ => rfl
  have M23 := PySem.W.mg_of X G n23_
  have b23 := F23.binds (ps := ["_law_call"]) fun _ _ _ _ _ _ us hl => match us, hl with | [_], _ => rfl
  have M24 := PySem.W.mg_of X G n24_
  have b24 := F24.binds (ps := ["_law_votes_here", "_law_lot"]) fun _ _ _ _ _ _ us hl => match us, hl with | [_, _], _ => rfl
  have M25 := PySem.W.mg_of X G n25_
  have b25 := F25.binds (ps := ["_law_votes_here", "_law_lot", "_law_unruly_here"]) fun _ _ _ _ _ _ us hl => match us, hl with | [_, _, _], _ => rfl
  have M26 := PySem.W.mg_of X G n26_
  have b26 := F26.binds (ps := ["_law_votes_here", "_law_need_here", "_law_unruly_here", "_law_lot"]) fun _ _ _ _ _ _ us hl => match us, hl with | [_, _, _, _], _ => rfl
  have M27 := PySem.W.mg_of X G n27_
  have b27 := F27.binds (ps := ["_law_over", "_law_under"]) fun _ _ _ _ _ _ us hl => match us, hl with | [_, _], _ => rfl
  have M28 := PySem.W.mg_of X G n28_
  have b28 := F28.binds (ps := ["_law_source"]) fun _ _ _ _ _ _ us hl => match us, hl with | [_], _ => rfl
  have M29 := PySem.W.mg_of X G n29_
  have b29 := F29.binds (ps := ["_law_ups_here", "_law_lot"]) fun _ _ _ _ _ _ us hl => match us, hl with | [_, _], _ => rfl
  have M30 := PySem.W.mg_of X G n30_
  have b30 := F30.binds (ps := ["_law_many", "_law_up_here", "_law_least"]) fun _ _ _ _ _ _ us hl => match us, hl with | [_, _, _], _ => rfl
  have M31 := PySem.W.mg_of X G n31_
  have b31 := F31.binds (ps := ["_law_many", "_law_unruly_here", "_law_up_here", "_law_share_here"]) fun _ _ _ _ _ _ us hl => match us, hl with | [_, _, _, _], _ => rfl
  have M32 := PySem.W.mg_of X G n32_
  have b32 := F32.binds (ps := ["_law_some_votes"]) fun _ _ _ _ _ _ us hl => match us, hl with | [_], _ => rfl
  have M33 := PySem.W.mg_of X G n33_
  have b33 := F33.binds (ps := ["_law_many"]) fun _ _ _ _ _ _ us hl => match us, hl with | [_], _ => rfl
  have M34 := PySem.W.mg_of X G n34_
  have b34 := F34.binds (ps := ["_law_some", "_law_need_here", "_law_unruly_here", "_law_ups_here", "_law_share_here"]) fun _ _ _ _ _ _ us hl => match us, hl with | [_, _, _, _, _], _ => rfl
  have M35 := PySem.W.mg_of X G n35_
  have b35 := F35.binds (ps := ["_law_ups_here", "_law_unruly_here", "_law_share_here"]) fun _ _ _ _ _ _ us hl => match us, hl with | [_, _, _], _ => rfl
  have e := hfa.symm.trans (PySem.W.mg_of X G nt3)
  cases e
  have T : Cst mg := ⟨(PySem.W.mg_none_of X G z_isinstance), (PySem.W.mg_none_of X G z_len), (PySem.W.mg_none_of X G z_int), (PySem.W.mg_none_of X G z_bool), (PySem.W.mg_none_of X G z_list), (PySem.W.mg_none_of X G z_tuple), (PySem.W.mg_none_of X G z_set), (PySem.W.mg_none_of X G z_range), (PySem.W.mg_none_of X G z_max), (PySem.W.mg_none_of X G z_min), (PySem.W.mg_none_of X G z_repr), (PySem.W.mg_none_of X G z_enumerate), (PySem.W.mg_none_of X G z_sorted), (PySem.W.mg_none_of X G z_all), (PySem.W.mg_none_of X G z_any), (PySem.W.mg_none_of X G z_zip), ⟨_, PySem.W.mg_of X G g_copies⟩, ⟨_, PySem.W.mg_of X G g_copiesT⟩, ⟨_, PySem.W.mg_of X G g_votesT⟩, (PySem.W.mg_none_of X G z_sum), PySem.W.mg_of X G g_gcd, ⟨_, PySem.W.mg_of X G g_gr⟩⟩
  have oxn : OexC K C_n := ⟨⟨_, _, _, _, _, _, _, _, _, _, _, _, _, _, _, xLn, by rfl⟩, x5n, x3n, x6n, x7n⟩
  have TEn : ErrT K mg "NoCount" C_n fI_n := ⟨oxn, PySem.W.mg_of X G nCn, iIn, tIn, nTn⟩
  have FIn := fun_mk (st := inClass (top 8) 0) lIn cIn kIn
  have bIn := FIn.binds (ps := ["self", "told"]) fun _ _ _ _ _ _ us hl => match us, hl with | [_, _], _ => rfl
  have ESn : ErrS K mg "NoCount" C_n := ⟨PySem.W.mg_of X G nCn, ⟨x1n, x2n, x3n, x4n⟩, nTn⟩
  have oxh : OexC K C_h := ⟨⟨_, _, _, _, _, _, _, _, _, _, _, _, _, _, _, xLh, by rfl⟩, x5h, x3h, x6h, x7h⟩
  have TEh : ErrT K mg "NoChances" C_h fI_h := ⟨oxh, PySem.W.mg_of X G nCh, iIh, tIh, nTh⟩
  have FIh := fun_mk (st := inClass (top 14) 0) lIh cIh kIh
  have bIh := FIh.binds (ps := ["self", "told"]) fun _ _ _ _ _ _ us hl => match us, hl with | [_, _], _ => rfl
  have ESh : ErrS K mg "NoChances" C_h := ⟨PySem.W.mg_of X G nCh, ⟨x1h, x2h, x3h, x4h⟩, nTh⟩
  have S : Tri K mg ⟨C_n, C_h⟩ := ⟨ESn, ESh, PySem.W.exm_ref x3n x4n x6n snn, PySem.W.exm_ref x3n x4n x6n shn, PySem.W.exm_ref x3h x4h x6h shh, ⟨_, PySem.W.mg_of X G nCq, PySem.W.exm_ref x3q x4q x6q shq⟩, ⟨_, PySem.W.mg_of X G nCl, PySem.W.exm_ref x3l x4l x6l shl⟩, ⟨_, PySem.W.mg_of X G nCc, PySem.W.exm_ref x3c x4c x6c shc⟩, ⟨_, PySem.W.mg_of X G nCb, PySem.W.exm_ref x3b x4b x6b shb⟩, ⟨_, PySem.W.mg_of X G nCk, PySem.W.exm_ref x3k x4k x6k shk⟩, ⟨_, PySem.W.mg_of X G nCv, PySem.W.exm_ref x3v x4v x6v shv⟩, ⟨_, PySem.W.mg_of X G nCe, PySem.W.exm_ref x3e x4e x6e she⟩, ⟨_, PySem.W.mg_of X G nCr0⟩, ⟨_, PySem.W.mg_of X G nCr1⟩, ⟨_, PySem.W.mg_of X G nCr2⟩, ⟨_, PySem.W.mg_of X G nCr3⟩, ⟨_, PySem.W.mg_of X G nCr4⟩⟩
  refine ⟨PySem.W.fnOf "law" "law" (defArgs sLaw) (defBody sLaw) (defScope sLaw) .none kVt3 dct3 pmt3 ant3 (.ref ct3) ctt3, [(ct1, Pt1), (ct2, Pt2), (ct3, Pt3)], all3 tab1 tab2 tab3, all3 notK1 notK2 notK3, all3 (PySem.W.codeHd_of_K X hcd1) (PySem.W.codeHd_of_K X hcd2) (PySem.W.codeHd_of_K X hcd3), fun s v => .of_eq rfl, fun base _ _ TB => ?_⟩
  have Tb_ : tbOf [(ct1, Pt1), (ct2, Pt2), (ct3, Pt3)] = [(Pt1, lamA), (Pt2, lamH), (Pt3, lamR)] := tbX3
  show FnG l.prog w K mg base 10 _ _ _ (spLaw K (tbOf [(ct1, Pt1), (ct2, Pt2), (ct3, Pt3)]))
  rw [Tb_]
  have TB1 : LamX.TabB base mg ct1 Pt1 := TB (ct1, Pt1) hm1
  have TB2 : LamX.TabB base mg ct2 Pt2 := TB (ct2, Pt2) hm2
  have TB3 : LamX.TabB base mg ct3 Pt3 := TB (ct3, Pt3) hm3
  have MKn : Mak l.prog w K mg base "NoCount" C_n := ⟨fI_n, _, TEn, ok_init8 FIn, bIn⟩
  have MKh : Mak l.prog w K mg base "NoChances" C_h := ⟨fI_h, _, TEh, ok_init14 FIh, bIh⟩
  have D0 : Df l.prog w K mg base 1 "is_number" ["value"] spN := ⟨f0, fd0, ok_number F0 T, M0, F0.kp, b0⟩
  have D1 : Df l.prog w K mg base 2 "is_within" ["value", "least", "most"] spW := ⟨f1, fd1, ok_within F1 D0, M1, F1.kp, b1⟩
  have D2 : Df l.prog w K mg base 2 "is_ratio" ["value"] (spRat K ratT) := ⟨f2, fd2, ok_rat F2 T D0, M2, F2.kp, b2⟩
  have D5 : Df l.prog w K mg base 3 "_is_small" ["value"] (spRat K smaT) := ⟨f5, fd5, ok_sma F5 T D2, M5, F5.kp, b5⟩
  have D3 : Df l.prog w K mg base 4 "is_chance" ["value"] (spRat K chaT) := ⟨f3, fd3, ok_cha F3 D5, M3, F3.kp, b3⟩
  have D4 : Df l.prog w K mg base 1 "lowered" ["top", "bottom"] spLow := ⟨f4, fd4, ok_low F4 T, M4, F4.kp, b4⟩
  have D12 : Df l.prog w K mg base 5 "_are_chances" ["value"] (spAre K) := ⟨f12, fd12, ok_are F12 T D3, M12, F12.kp, b12⟩
  have D14 : Df l.prog w K mg base 1 "_weights" ["lots", "ups"] spWts := ⟨f14, fd14, ok_wts F14 T, M14, F14.kp, b14⟩
  have D8 : DfX l.prog w K mg base 3 "check_unruly" ["unruly", "count"] (spCkU C_n) := ⟨f8, fd8, ok_cku F8 MKn D1, M8, F8.kp, b8⟩
  have D9 : Df l.prog w K mg base 1 "votes_of" ["votes", "lot"] spVof := ⟨f9, fd9, ok_vof F9 T, M9, F9.kp, b9⟩
  have DAL : Df l.prog w K mg base 3 "all_lots" ["copies"] (spParts [(Pt1, lamA), (Pt2, lamH), (Pt3, lamR)]) := ⟨ft1, _, ok_alots ⟨oct1, odt1, kVt1, dct1, pmt1, ant1, ctt1, slt1, rfl, lt1, ck1⟩ T TB1 hm1 (hu1 ne12 ne13), PySem.W.mg_of X G nt1, kk1, .all fun us hl => match us, hl with | [_], _ => rfl⟩
  have DHV : Df l.prog w K mg base 3 "_heaviest" psVUL (spHeavy [(Pt1, lamA), (Pt2, lamH), (Pt3, lamR)]) := ⟨ft2, _, ok_heavy ⟨oct2, odt2, kVt2, dct2, pmt2, ant2, ctt2, slt2, rfl, lt2, ck2⟩ T TB2 hm2 (hu2 ne12 ne23), PySem.W.mg_of X G nt2, kk2, .all fun us hl => match us, hl with | [_, _, _], _ => rfl⟩
  have D10 : Df l.prog w K mg base 4 "_lots_of" ["count"] (spLotsOf [(Pt1, lamA), (Pt2, lamH), (Pt3, lamR)]) := ⟨f10, fd10, ok_lotsof F10 T DAL, M10, F10.kp, b10⟩
  have D11 : Df l.prog w K mg base 4 "_sure_votes" ["votes", "unruly", "lot"] (spSure [(Pt1, lamA), (Pt2, lamH), (Pt3, lamR)]) := ⟨f11, fd11, ok_sure F11 D9 DHV, M11, F11.kp, b11⟩
  have D13 : DfX l.prog w K mg base 5 "_check_chance" ["value"] (spCkH K C_h) := ⟨f13, fd13, ok_ckh F13 MKh D3, M13, F13.kp, b13⟩
  have D15 : Df l.prog w K mg base 1 "_at_least" ["weights", "count"] spAtL := ⟨f15, fd15, ok_at F15 T, M15, F15.kp, b15⟩
  have D16 : Df l.prog w K mg base 1 "_worth" ["share", "readable", "writable"] spWorth := ⟨f16, fd16, ok_wo F16, M16, F16.kp, b16⟩
  have D17 : Df l.prog w K mg base 1 "_votes_to_try" ["count"] spTry := ⟨f17, fd17, ok_try F17 T, M17, F17.kp, b17⟩
  have D18 : Df l.prog w K mg base 5 "_worths_by_need" ["votes", "unruly", "weights", "share"] (spByN [(Pt1, lamA), (Pt2, lamH), (Pt3, lamR)]) := ⟨f18, fd18, ok_bn F18 T D9 D11 D16, M18, F18.kp, b18⟩
  have D6 : DfX l.prog w K mg base 6 "best_counts" ["count", "unruly", "up", "share"] (spBestC K [(Pt1, lamA), (Pt2, lamH), (Pt3, lamR)] C_n C_h) := ⟨f6, fd6, ok_bc F6 T MKn D1 D8 D13 D10 D14 D15 D16, M6, F6.kp, b6⟩
  have D7 : DfX l.prog w K mg base 6 "best_votes" ["ups", "unruly", "share"] (spBestV K [(Pt1, lamA), (Pt2, lamH), (Pt3, lamR)] C_n C_h) := ⟨f7, fd7, ok_bv F7 T MKh D8 D13 D10 D14 D12 D17 D18 D4, M7, F7.kp, b7⟩
  have D19 : Df l.prog w K mg base 1 "_law_pool" ["_law_script", "_law_k"] (spPool K) := ⟨f19, fd19, ok_pool F19 T, M19, F19.kp, b19⟩
  have D20 : Df l.prog w K mg base 1 "_law_take" ["_law_source", "_law_top"] spTake := ⟨f20, fd20, ok_take F20 T, M20, F20.kp, b20⟩
  have D21 : Df l.prog w K mg base 2 "_law_one" ["_law_source", "_law_things"] spOne := ⟨f21, fd21, ok_one F21 T D20, M21, F21.kp, b21⟩
  have D22 : Df l.prog w K mg base 1 "_law_all_lots" ["_law_many"] spLAll := ⟨f22, fd22, ok_lall F22 T, M22, F22.kp, b22⟩
  have D24 : Df l.prog w K mg base 1 "_law_sum" ["_law_votes_here", "_law_lot"] spLSum := ⟨f24, fd24, ok_lsum F24 T, M24, F24.kp, b24⟩
  have D25 : Df l.prog w K mg base 1 "_law_sure" ["_law_votes_here", "_law_lot", "_law_unruly_here"] spLSure := ⟨f25, fd25, ok_lsure F25 T, M25, F25.kp, b25⟩
  have D26 : Df l.prog w K mg base 2 "_law_is_enough" ["_law_votes_here", "_law_need_here", "_law_unruly_here", "_law_lot"] spLEn := ⟨f26, fd26, ok_len F26 T D25, M26, F26.kp, b26⟩
  have D27 : Df l.prog w K mg base 1 "_law_lowered" ["_law_over", "_law_under"] spLLow := ⟨f27, fd27, ok_llow F27, M27, F27.kp, b27⟩
  have D28 : Df l.prog w K mg base 2 "_law_chance" ["_law_source"] spLCh := ⟨f28, fd28, ok_lch F28 D20 D27, M28, F28.kp, b28⟩
  have D29 : Df l.prog w K mg base 1 "_law_weight" ["_law_ups_here", "_law_lot"] spLWt := ⟨f29, fd29, ok_lwt F29 T, M29, F29.kp, b29⟩
  have D30 : Df l.prog w K mg base 2 "_law_up" ["_law_many", "_law_up_here", "_law_least"] spLUp := ⟨f30, fd30, ok_lup F30 T D22 D29, M30, F30.kp, b30⟩
  have D31 : Df l.prog w K mg base 3 "_law_counts" ["_law_many", "_law_unruly_here", "_law_up_here", "_law_share_here"] spLCnt := ⟨f31, fd31, ok_lcnt F31 T D30, M31, F31.kp, b31⟩
  have D32 : Df l.prog w K mg base 1 "_law_longer" ["_law_some_votes"] spLLong := ⟨f32, fd32, ok_llong F32 T, M32, F32.kp, b32⟩
  have D33 : Df l.prog w K mg base 2 "_law_all_votes" ["_law_many"] spLAllV := ⟨f33, fd33, ok_lav F33 T D32, M33, F33.kp, b33⟩
  have D34 : Df l.prog w K mg base 3 "_law_worth" ["_law_some", "_law_need_here", "_law_unruly_here", "_law_ups_here", "_law_share_here"] spLWo := ⟨f34, fd34, ok_lwo F34 T D22 D29 D24 D26, M34, F34.kp, b34⟩
  have D35 : Df l.prog w K mg base 4 "_law_votes_due" ["_law_ups_here", "_law_unruly_here", "_law_share_here"] spLDue := ⟨f35, fd35, ok_ldue F35 T D33 D26 D34 D27, M35, F35.kp, b35⟩
  have DFR : DfG l.prog w K mg base 8 "_law_four_right" ["_law_source"] (spFour [(Pt1, lamA), (Pt2, lamH), (Pt3, lamR)]) := ⟨ft4, _, ok_four ⟨oct4, odt4, kVt4, dct4, pmt4, ant4, ctt4, slt4, rfl, lt4, ck4⟩ T D21 D7, PySem.W.mg_of X G nt4, kk4, .all fun us hl => match us, hl with | [_], _ => rfl⟩
  exact ok_law (c := ⟨C_n, C_h⟩) ⟨oct3, odt3, kVt3, dct3, pmt3, ant3, ctt3, slt3, rfl, lt3, ck3⟩ T S TB3 hm3 (hu3 ne13 ne23) F23 M23 b23 D19 D20 D21 D28 D31 D35 DFR D6 D7
end Pl

open PyProof.Rows PySem PySem.W in
set_option maxRecDepth 100001 in
set_option maxHeartbeats 0 in
theorem PySem.Challenge.cw_plainstore_k18_whole_best_counts_and_vot_holds : PySem.Challenge.rw_plainstore_k18_whole_best_counts_and_vot.Holds := by
  (w_on; o_law; k_head); (case hw => w_witness2)
  k_fill
  refine Pl.walkP (l := PySem.Challenge.rw_plainstore_k18_whole_best_counts_and_vot) rfl (by decide) rfl (fun w h Y => km_in_of Y) ?F
  case F =>
    intro w mg fa h Y KX G hmg
    refine' Pl.all_mk KX G hmg ?A0 ?A1 ?A2 ?A3 ?A4 ?A5 ?A6 ?A7 ?A8 ?A9 ?A10 ?A11 ?A12 ?A13 ?A14 ?A15 ?A16 ?A17 ?A18 ?A19 ?A20 ?A21 ?A22 ?A23 ?A24 ?A25 ?A26 ?A27 ?A28 ?A29 ?A30 ?A31 ?A32 ?A33 ?A34 ?A35 ?z_isinstance ?z_len ?z_int ?z_bool ?z_list ?z_tuple ?z_set ?z_range ?z_max ?z_min ?z_repr ?z_enumerate ?z_sorted ?z_all ?z_any ?z_zip ?z_sum ?g_copies ?g_copiesT ?g_votesT ?g_gcd ?g_gr ?nt1 ?lt1 ?ck1 ?kk1 ?lc1 ?hP1 ?hcd1 ?notK1 ?tab1 ?nt2 ?lt2 ?ck2 ?kk2 ?lc2 ?hP2 ?hcd2 ?notK2 ?tab2 ?nt3 ?lt3 ?ck3 ?kk3 ?lc3 ?hP3 ?hcd3 ?notK3 ?tab3 ?nt4 ?lt4 ?ck4 ?kk4 ?ne12 ?ne13 ?ne23 ?nCn ?xLn ?x5n ?x6n ?x7n ?iIn ?tIn ?nTn ?lIn ?cIn ?kIn ?x1n ?x2n ?x3n ?x4n ?nCh ?xLh ?x5h ?x6h ?x7h ?iIh ?tIh ?nTh ?lIh ?cIh ?kIh ?x1h ?x2h ?x3h ?x4h ?nCq ?x3q ?x4q ?x6q ?nCl ?x3l ?x4l ?x6l ?nCc ?x3c ?x4c ?x6c ?nCb ?x3b ?x4b ?x6b ?nCk ?x3k ?x4k ?x6k ?nCv ?x3v ?x4v ?x6v ?nCe ?x3e ?x4e ?x6e ?nCr0 ?nCr1 ?nCr2 ?nCr3 ?nCr4 ?snn ?shn ?shh ?shq ?shl ?shc ?shb ?shk ?shv ?she
    (case A0 => (refine' ⟨_, _, ?a, L2.fun_mk ?l ?c ?k⟩; (case a => k_is); (case l => k_is); (case c => k_is); (case k => k_is)))
    (case A1 => (refine' ⟨_, _, ?a, L2.fun_mk ?l ?c ?k⟩; (case a => k_is); (case l => k_is); (case c => k_is); (case k => k_is)))
    (case A2 => (refine' ⟨_, _, ?a, L2.fun_mk ?l ?c ?k⟩; (case a => k_is); (case l => k_is); (case c => k_is); (case k => k_is)))
    (case A3 => (refine' ⟨_, _, ?a, L2.fun_mk ?l ?c ?k⟩; (case a => k_is); (case l => k_is); (case c => k_is); (case k => k_is)))
    (case A4 => (refine' ⟨_, _, ?a, L2.fun_mk ?l ?c ?k⟩; (case a => k_is); (case l => k_is); (case c => k_is); (case k => k_is)))
    (case A5 => (refine' ⟨_, _, ?a, L2.fun_mk ?l ?c ?k⟩; (case a => k_is); (case l => k_is); (case c => k_is); (case k => k_is)))
    (case A6 => (refine' ⟨_, _, ?a, L2.fun_mk ?l ?c ?k⟩; (case a => k_is); (case l => k_is); (case c => k_is); (case k => k_is)))
    (case A7 => (refine' ⟨_, _, ?a, L2.fun_mk ?l ?c ?k⟩; (case a => k_is); (case l => k_is); (case c => k_is); (case k => k_is)))
    (case A8 => (refine' ⟨_, _, ?a, L2.fun_mk ?l ?c ?k⟩; (case a => k_is); (case l => k_is); (case c => k_is); (case k => k_is)))
    (case A9 => (refine' ⟨_, _, ?a, L2.fun_mk ?l ?c ?k⟩; (case a => k_is); (case l => k_is); (case c => k_is); (case k => k_is)))
    (case A10 => (refine' ⟨_, _, ?a, L2.fun_mk ?l ?c ?k⟩; (case a => k_is); (case l => k_is); (case c => k_is); (case k => k_is)))
    (case A11 => (refine' ⟨_, _, ?a, L2.fun_mk ?l ?c ?k⟩; (case a => k_is); (case l => k_is); (case c => k_is); (case k => k_is)))
    (case A12 => (refine' ⟨_, _, ?a, L2.fun_mk ?l ?c ?k⟩; (case a => k_is); (case l => k_is); (case c => k_is); (case k => k_is)))
    (case A13 => (refine' ⟨_, _, ?a, L2.fun_mk ?l ?c ?k⟩; (case a => k_is); (case l => k_is); (case c => k_is); (case k => k_is)))
    (case A14 => (refine' ⟨_, _, ?a, L2.fun_mk ?l ?c ?k⟩; (case a => k_is); (case l => k_is); (case c => k_is); (case k => k_is)))
    (case A15 => (refine' ⟨_, _, ?a, L2.fun_mk ?l ?c ?k⟩; (case a => k_is); (case l => k_is); (case c => k_is); (case k => k_is)))
    (case A16 => (refine' ⟨_, _, ?a, L2.fun_mk ?l ?c ?k⟩; (case a => k_is); (case l => k_is); (case c => k_is); (case k => k_is)))
    (case A17 => (refine' ⟨_, _, ?a, L2.fun_mk ?l ?c ?k⟩; (case a => k_is); (case l => k_is); (case c => k_is); (case k => k_is)))
    (case A18 => (refine' ⟨_, _, ?a, L2.fun_mk ?l ?c ?k⟩; (case a => k_is); (case l => k_is); (case c => k_is); (case k => k_is)))
    (case A19 => (refine' ⟨_, _, ?a, L2.fun_mk ?l ?c ?k⟩; (case a => k_is); (case l => k_is); (case c => k_is); (case k => k_is)))
    (case A20 => (refine' ⟨_, _, ?a, L2.fun_mk ?l ?c ?k⟩; (case a => k_is); (case l => k_is); (case c => k_is); (case k => k_is)))
    (case A21 => (refine' ⟨_, _, ?a, L2.fun_mk ?l ?c ?k⟩; (case a => k_is); (case l => k_is); (case c => k_is); (case k => k_is)))
    (case A22 => (refine' ⟨_, _, ?a, L2.fun_mk ?l ?c ?k⟩; (case a => k_is); (case l => k_is); (case c => k_is); (case k => k_is)))
    (case A23 => (refine' ⟨_, _, ?a, L2.fun_mk ?l ?c ?k⟩; (case a => k_is); (case l => k_is); (case c => k_is); (case k => k_is)))
    (case A24 => (refine' ⟨_, _, ?a, L2.fun_mk ?l ?c ?k⟩; (case a => k_is); (case l => k_is); (case c => k_is); (case k => k_is)))
    (case A25 => (refine' ⟨_, _, ?a, L2.fun_mk ?l ?c ?k⟩; (case a => k_is); (case l => k_is); (case c => k_is); (case k => k_is)))
    (case A26 => (refine' ⟨_, _, ?a, L2.fun_mk ?l ?c ?k⟩; (case a => k_is); (case l => k_is); (case c => k_is); (case k => k_is)))
    (case A27 => (refine' ⟨_, _, ?a, L2.fun_mk ?l ?c ?k⟩; (case a => k_is); (case l => k_is); (case c => k_is); (case k => k_is)))
    (case A28 => (refine' ⟨_, _, ?a, L2.fun_mk ?l ?c ?k⟩; (case a => k_is); (case l => k_is); (case c => k_is); (case k => k_is)))
    (case A29 => (refine' ⟨_, _, ?a, L2.fun_mk ?l ?c ?k⟩; (case a => k_is); (case l => k_is); (case c => k_is); (case k => k_is)))
    (case A30 => (refine' ⟨_, _, ?a, L2.fun_mk ?l ?c ?k⟩; (case a => k_is); (case l => k_is); (case c => k_is); (case k => k_is)))
    (case A31 => (refine' ⟨_, _, ?a, L2.fun_mk ?l ?c ?k⟩; (case a => k_is); (case l => k_is); (case c => k_is); (case k => k_is)))
    (case A32 => (refine' ⟨_, _, ?a, L2.fun_mk ?l ?c ?k⟩; (case a => k_is); (case l => k_is); (case c => k_is); (case k => k_is)))
    (case A33 => (refine' ⟨_, _, ?a, L2.fun_mk ?l ?c ?k⟩; (case a => k_is); (case l => k_is); (case c => k_is); (case k => k_is)))
    (case A34 => (refine' ⟨_, _, ?a, L2.fun_mk ?l ?c ?k⟩; (case a => k_is); (case l => k_is); (case c => k_is); (case k => k_is)))
    (case A35 => (refine' ⟨_, _, ?a, L2.fun_mk ?l ?c ?k⟩; (case a => k_is); (case l => k_is); (case c => k_is); (case k => k_is)))
    (case z_isinstance => k_is)
    (case z_len => k_is)
    (case z_int => k_is)
    (case z_bool => k_is)
    (case z_list => k_is)
    (case z_tuple => k_is)
    (case z_set => k_is)
    (case z_range => k_is)
    (case z_max => k_is)
    (case z_min => k_is)
    (case z_repr => k_is)
    (case z_enumerate => k_is)
    (case z_sorted => k_is)
    (case z_all => k_is)
    (case z_any => k_is)
    (case z_zip => k_is)
    (case z_sum => k_is)
    (case g_copies => k_is)
    (case g_copiesT => k_is)
    (case g_votesT => k_is)
    (case g_gcd => k_is)
    (case g_gr => k_is)
    (case nt1 => k_is)
    (case lt1 => k_is)
    (case ck1 => k_is)
    (case kk1 => k_is)
    (case lc1 => k_is)
    (case hP1 => rfl)
    (case hcd1 => kernel_rfl)
    (case notK1 => kernel_rfl)
    (case tab1 => exact PySem.W.km_tabs_of Y _ (by simp))
    (case nt2 => k_is)
    (case lt2 => k_is)
    (case ck2 => k_is)
    (case kk2 => k_is)
    (case lc2 => k_is)
    (case hP2 => rfl)
    (case hcd2 => kernel_rfl)
    (case notK2 => kernel_rfl)
    (case tab2 => exact PySem.W.km_tabs_of Y _ (by simp))
    (case nt3 => k_is)
    (case lt3 => k_is)
    (case ck3 => k_is)
    (case kk3 => k_is)
    (case lc3 => k_is)
    (case hP3 => rfl)
    (case hcd3 => kernel_rfl)
    (case notK3 => kernel_rfl)
    (case tab3 => exact PySem.W.km_tabs_of Y _ (by simp))
    (case nt4 => k_is)
    (case lt4 => k_is)
    (case ck4 => k_is)
    (case kk4 => k_is)
    (case ne12 => decide)
    (case ne13 => decide)
    (case ne23 => decide)
    (case nCn => k_is)
    (case xLn => k_is)
    (case x5n => k_is)
    (case x6n => k_is)
    (case x7n => k_is)
    (case iIn => k_is)
    (case tIn => k_is)
    (case nTn => k_is)
    (case lIn => k_is)
    (case cIn => k_is)
    (case kIn => k_is)
    (case x1n => k_is)
    (case x2n => k_is)
    (case x3n => k_is)
    (case x4n => k_is)
    (case nCh => k_is)
    (case xLh => k_is)
    (case x5h => k_is)
    (case x6h => k_is)
    (case x7h => k_is)
    (case iIh => k_is)
    (case tIh => k_is)
    (case nTh => k_is)
    (case lIh => k_is)
    (case cIh => k_is)
    (case kIh => k_is)
    (case x1h => k_is)
    (case x2h => k_is)
    (case x3h => k_is)
    (case x4h => k_is)
    (case nCq => k_is)
    (case x3q => k_is)
    (case x4q => k_is)
    (case x6q => k_is)
    (case nCl => k_is)
    (case x3l => k_is)
    (case x4l => k_is)
    (case x6l => k_is)
    (case nCc => k_is)
    (case x3c => k_is)
    (case x4c => k_is)
    (case x6c => k_is)
    (case nCb => k_is)
    (case x3b => k_is)
    (case x4b => k_is)
    (case x6b => k_is)
    (case nCk => k_is)
    (case x3k => k_is)
    (case x4k => k_is)
    (case x6k => k_is)
    (case nCv => k_is)
    (case x3v => k_is)
    (case x4v => k_is)
    (case x6v => k_is)
    (case nCe => k_is)
    (case x3e => k_is)
    (case x4e => k_is)
    (case x6e => k_is)
    (case nCr0 => k_is)
    (case nCr1 => k_is)
    (case nCr2 => k_is)
    (case nCr3 => k_is)
    (case nCr4 => k_is)
    (case snn => k_is)
    (case shn => k_is)
    (case shh => k_is)
    (case shq => k_is)
    (case shl => k_is)
    (case shc => k_is)
    (case shb => k_is)
    (case shk => k_is)
    (case shv => k_is)
    (case she => k_is)

