import PyProof.Rows.All
import Wide.All
import OpenK.AllK
import Wide.FinOn
import HandS.ForMost
import PyProof.ReprLen
import PyProof.ReprRoads
import PyProof.WalksMore
import PyProof.CollectIter
import KE.SortUse
import HandS.IsInst
import HandS.TupAny
import HandS.TupMul
import HandS.TupSets
import HandS.Conv
import HandS.Style
import HandS.ExcInit
import HandS.ExcIs
import HandS.ExcField
import HandS.CallLocal
import HandS.CallSlots
import HandS.TryOnly
import HandS.ExcOwn
import HandS.WordsExc
import HandS.More
import HandS.NoneIn
import HandS.Defaults
import HandS.Lambda
import HandS.TryMany
import HandS.EndTab
import KE.KNestM
import HandS.Walk
import KE.GoesEnum
import KE.SortKeyHeap
import KE.LtSeq
import KE.SortData
import HandS.SortKw
import PyProof.Rows.TupSub
import HandS.Zip
import HandS.Sort
import HandS.TupLe
import KE.KTupSum
import PySem.Challenge.RW_plainstore_k15_whole_votes_by_all_lots
set_option Elab.async false
set_option linter.all false
set_option maxRecDepth 100000
set_option maxHeartbeats 8000000
namespace Pl
open L2 PySem PySem.Spec PyProof.Rows
/-- what a tracked tuple's items read as: known to its object (which has no dict), or longer than four, or (k = false) any -/
inductive TupAt (H : Hp) : Bool → Addr → List V → Prop
  | frz {k : Bool} {a : Addr} {o : Obj} {xs : List V} (h : H a = some (.frz o (.tup xs))) (d : o.dict = none) : TupAt H k a xs
  | big {k : Bool} {a : Addr} {xs : List V} (h : H a = some (.tup xs)) (l : 4 < xs.length) : TupAt H k a xs
  | any {a : Addr} {xs : List V} (h : H a = some (.tup xs)) : TupAt H false a xs
mutual
/-- m: dicts (true) or lists (false) stand in it; z: an address that it keeps away from; k: its own tuple is known -/
inductive Dv (m : Bool) (z : Addr) (H : Hp) : Bool → V → PyData → Prop
  | non {k : Bool} : Dv m z H k .non .none
  | bl {k : Bool} (b : Bool) : Dv m z H k (.bl b) (.bool b)
  | int {k : Bool} (i : Int) : Dv m z H k (.int i) (.int i)
  | str {k : Bool} (x : Str) : Dv m z H k (.str x) (.str x)
  | lst {k : Bool} {a : Addr} {xs : List V} {ds : List PyData} (hm : m = false) (ne : a ≠ z) (h : H a = some (.lst xs)) (t : DvL m z H false xs ds) : Dv m z H k (.ref a) (.list ds)
  | tup {k : Bool} {a : Addr} {xs : List V} {ds : List PyData} (ne : a ≠ z) (h : TupAt H k a xs) (t : DvL m z H true xs ds) : Dv m z H k (.ref a) (.tuple ds)
  | dct {k : Bool} {a : Addr} (hm : m = true) (ne : a ≠ z) (h : H a = some (.dK [])) : Dv m z H k (.ref a) (.dict [])
inductive DvL (m : Bool) (z : Addr) (H : Hp) : Bool → List V → List PyData → Prop
  | nil {k : Bool} : DvL m z H k [] []
  | cons {k : Bool} {v : V} {vs : List V} {d : PyData} {ds : List PyData} (a : Dv m z H k v d) (t : DvL m z H k vs ds) : DvL m z H k (v :: vs) (d :: ds)
end
theorem TupAt.weak {H : Hp} {k : Bool} {a : Addr} {xs : List V} (h : TupAt H k a xs) : TupAt H false a xs := by
  cases h with
  | frz h d => exact .frz h d
  | big h l => exact .any h
  | any h => exact .any h
theorem TupAt.sq {K : PySem.W.Frag} {H : Hp} {k : Bool} {a : Addr} {xs : List V} (h : TupAt H k a xs) : SqT K H a xs := by
  cases h with
  | frz h d => exact .inl (.inr ⟨_, h⟩)
  | big h l => exact .inl (.inl h)
  | any h => exact .inl (.inl h)
/-- (any object) -/
def NoT (_ : HO) : Prop := True
theorem NoT.lst {xs : List V} : NoT (.lst xs) := trivial
theorem NoT.tup {xs : List V} : NoT (.tup xs) := trivial
theorem NoT.dK {kvs : List (Key × V)} : NoT (.dK kvs) := trivial
theorem NoT.frz {o : Obj} {u : HO} : NoT (.frz o u) := trivial
/-- all but z stands -/
def But (z : Addr) (H G : Hp) : Prop := ∀ b o, b ≠ z → NoT o → H b = some o → G b = some o
/-- all stands -/
def Sam (H G : Hp) : Prop := ∀ b o, NoT o → H b = some o → G b = some o
theorem Sam.refl (H : Hp) : Sam H H := fun _ _ _ e => e
theorem Sam.of {H G : Hp} (s : Same H G) : Sam H G := fun b o _ e => s b o e
theorem Sam.trans {H G F : Hp} (a : Sam H G) (b : Sam G F) : Sam H F := fun c o n e => b c o n (a c o n e)
theorem Sam.but {H G : Hp} {z : Addr} (s : Sam H G) : But z H G := fun b o _ n e => s b o n e
theorem But.of {H G : Hp} {z : Addr} (s : Same H G) : But z H G := fun b o _ _ e => s b o e
theorem But.refl (z : Addr) (H : Hp) : But z H H := fun _ _ _ _ e => e
theorem But.trans {z : Addr} {H G F : Hp} (a : But z H G) (b : But z G F) : But z H F := fun c o n t e => b c o n t (a c o n t e)
theorem But.upd {z : Addr} {H : Hp} {o : HO} : But z H (L2.upd H z o) := fun b u n _ e => (upd_ne n).trans e
theorem But.new {z p : Addr} {H : Hp} {o : HO} (f : H p = none) : But z H (L2.upd H p o) := fun b u _ _ e => (upd_ne (ne_of_none e f)).trans e
theorem same_new {p : Addr} {H : Hp} {o : HO} (f : H p = none) : Same H (L2.upd H p o) := fun b u e => (upd_ne (ne_of_none e f)).trans e
theorem TupAt.to {H G : Hp} {z : Addr} {k : Bool} {a : Addr} {xs : List V} (e : But z H G) (ne : a ≠ z) (h : TupAt H k a xs) : TupAt G k a xs := by
  cases h with
  | frz h d => exact .frz (e _ _ ne NoT.frz h) d
  | big h l => exact .big (e _ _ ne NoT.tup h) l
  | any h => exact .any (e _ _ ne NoT.tup h)
section
variable {m : Bool} {z : Addr} {H G : Hp}
mutual
theorem Dv.to (e : But z H G) : ∀ (k : Bool) (d : PyData) (v : V), Dv m z H k v d → Dv m z G k v d
  | _, .none, _, h => by cases h; exact .non
  | _, .bool _, _, h => by cases h; exact .bl _
  | _, .int _, _, h => by cases h; exact .int _
  | _, .str _, _, h => by cases h; exact .str _
  | _, .list ds, _, h => by
    cases h with
    | lst hm ne h t => exact .lst hm ne (e _ _ ne NoT.lst h) (DvL.to e _ ds _ t)
  | _, .tuple ds, _, h => by
    cases h with
    | tup ne h t => exact .tup ne (h.to e ne) (DvL.to e _ ds _ t)
  | _, .dict _, _, h => by
    cases h with
    | dct hm ne h => exact .dct hm ne (e _ _ ne NoT.dK h)
theorem DvL.to (e : But z H G) : ∀ (k : Bool) (ds : List PyData) (vs : List V), DvL m z H k vs ds → DvL m z G k vs ds
  | _, [], _, h => by cases h; exact .nil
  | _, d :: ds, _, h => by
    cases h with
    | cons a t => exact .cons (Dv.to e _ d _ a) (DvL.to e _ ds _ t)
end
theorem Dv.weak {k : Bool} {v : V} {d : PyData} (h : Dv m z H k v d) : Dv m z H false v d := by
  cases h with
  | non => exact .non
  | bl b => exact .bl b
  | int i => exact .int i
  | str x => exact .str x
  | lst hm ne h t => exact .lst hm ne h t
  | tup ne h t => exact .tup ne h.weak t
  | dct hm ne h => exact .dct hm ne h
theorem DvL.weak {k : Bool} : ∀ {vs : List V} {ds : List PyData}, DvL m z H k vs ds → DvL m z H false vs ds
  | _, _, .nil => .nil
  | _, _, .cons a t => .cons a.weak t.weak
theorem DvL.len {k : Bool} : ∀ {vs : List V} {ds : List PyData}, DvL m z H k vs ds → vs.length = ds.length
  | _, _, .nil => rfl
  | _, _, .cons _ t => congrArg Nat.succ t.len
theorem DvL.at {k : Bool} : ∀ {vs : List V} {ds : List PyData} {i : Nat} {d : PyData}, DvL m z H k vs ds → ds[i]? = some d → ∃ v, vs[i]? = some v ∧ Dv m z H k v d
  | _, _, _, _, .nil, e => absurd e (by simp)
  | _, _, 0, _, .cons a _, e => by simp at e; subst e; exact ⟨_, rfl, a⟩
  | _, _, i + 1, _, .cons _ t, e => by
    obtain ⟨v, h1, h2⟩ := DvL.at (i := i) t (by simpa using e)
    exact ⟨v, by simpa using h1, h2⟩
theorem DvL.at' {k : Bool} : ∀ {vs : List V} {ds : List PyData} {i : Nat} {v : V}, DvL m z H k vs ds → vs[i]? = some v → ∃ d, ds[i]? = some d ∧ Dv m z H k v d
  | _, _, _, _, .nil, e => absurd e (by simp)
  | _, _, 0, _, .cons a _, e => by simp at e; subst e; exact ⟨_, rfl, a⟩
  | _, _, i + 1, _, .cons _ t, e => by
    obtain ⟨v, h1, h2⟩ := DvL.at' (i := i) t (by simpa using e)
    exact ⟨v, by simpa using h1, h2⟩
theorem DvL.app {k : Bool} : ∀ {vs ws : List V} {ds es : List PyData}, DvL m z H k vs ds → DvL m z H k ws es → DvL m z H k (vs ++ ws) (ds ++ es)
  | _, _, _, _, .nil, h => h
  | _, _, _, _, .cons a t, h => .cons a (t.app h)
theorem DvL.take {k : Bool} : ∀ {vs : List V} {ds : List PyData} (n : Nat), DvL m z H k vs ds → DvL m z H k (vs.take n) (ds.take n)
  | _, _, 0, _ => by rw [List.take_zero, List.take_zero]; exact .nil
  | _, _, _ + 1, .nil => .nil
  | _, _, n + 1, .cons a t => .cons a (t.take n)
theorem DvL.drop {k : Bool} : ∀ {vs : List V} {ds : List PyData} (n : Nat), DvL m z H k vs ds → DvL m z H k (vs.drop n) (ds.drop n)
  | _, _, 0, h => h
  | _, _, _ + 1, .nil => .nil
  | _, _, n + 1, .cons _ t => t.drop n
end
section
variable {X : Cx} {pins : List (Addr × Obj)} {σ : L2.St} {H : Hp} {s : Shared} {m : Bool} {z : Addr}
theorem vals_list {a : Addr} {xs : List V} (I : Inv X pins σ H s) (h : H a = some (.lst xs)) : ∃ o vs n, s.heap.get? a = some o ∧ o.cls = .type "list" ∧ o.data = .seq vs n ∧ Vals xs vs.toList := by
  obtain ⟨_, its, n, r, e⟩ := I.hok a _ h
  exact ⟨_, its.toArray, n, e, rfl, rfl, by simpa using r⟩
theorem TupAt.obj {k : Bool} {a : Addr} {xs : List V} (I : Inv X pins σ H s) (h : TupAt H k a xs) : xs.length ≤ sizeLine ∧ ∃ its : List Value, Vals xs its ∧ IsTup s.heap a its.toArray := by
  cases h with
  | frz h d => exact (I.hok _ _ h).2
  | big h l => exact I.hok _ _ h
  | any h => exact I.hok _ _ h
mutual
theorem Dv.rd (I : Inv X pins σ H s) : ∀ (k : Bool) (d : PyData) (v : V) (u : Value), Dv m z H k v d → RelV v u → ∃ as, Reads s.heap u d as ∧ (m = true → sysModules ∉ as)
  | _, .none, _, _, h, r => by cases h; cases r; exact ⟨_, .none, fun _ => List.not_mem_nil⟩
  | _, .bool b, _, _, h, r => by cases h; cases r; exact ⟨_, .bool b, fun _ => List.not_mem_nil⟩
  | _, .int i, _, _, h, r => by
    cases h
    obtain ⟨t, rfl⟩ := r
    exact ⟨_, .int i t, fun _ => List.not_mem_nil⟩
  | _, .str x, _, _, h, r => by
    cases h
    obtain ⟨t, rfl⟩ := r
    exact ⟨_, .str x t, fun _ => List.not_mem_nil⟩
  | _, .list ds, _, _, h, r => by
    cases h with
    | lst hm ne h t =>
      cases r
      obtain ⟨o, vs, n, e1, e2, e3, rv⟩ := vals_list I h
      obtain ⟨as, q, _⟩ := DvL.rd I _ ds _ _ t rv
      exact ⟨_, .list e1 e2 e3 q, fun e => absurd (hm.symm.trans e) (by decide)⟩
  | _, .tuple ds, _, _, h, r => by
    cases h with
    | tup ne h t =>
      cases r
      obtain ⟨_, its, rv, o, e1, e2, n, e3⟩ := h.obj I
      obtain ⟨as, q, kk⟩ := DvL.rd I _ ds _ its t rv
      exact ⟨_, .tuple e1 e2 e3 (by simpa using q), kk⟩
  | _, .dict kvs, _, _, h, r => by
    cases h with
    | @dct _ a hm ne h =>
      cases r
      obtain ⟨_, lo, vs, rel, o, es, n, e1, e2, e3, _, e4, _⟩ := I.hok _ _ h
      cases rel
      obtain ⟨l⟩ := es
      have e5 : l = [] := by
        cases l with
        | nil => rfl
        | cons x l => cases e4
      subst e5
      refine ⟨[a] ++ [], .dict (as := []) (bs := []) e1 e2.1 e3 .nil .nil, fun _ hm => ?_⟩
      rw [List.append_nil, List.mem_singleton] at hm
      subst hm
      simp at lo
theorem DvL.rd (I : Inv X pins σ H s) : ∀ (k : Bool) (ds : List PyData) (vs : List V) (us : List Value), DvL m z H k vs ds → Vals vs us → ∃ as, ReadsAll s.heap us ds as ∧ (m = true → sysModules ∉ as)
  | _, [], _, _, h, r => by cases h; cases r; exact ⟨_, .nil, fun _ => List.not_mem_nil⟩
  | _, d :: ds, _, _, h, r => by
    cases h with
    | cons a t =>
      cases r with
      | cons r1 r2 =>
        obtain ⟨as, q1, k1⟩ := Dv.rd I _ d _ _ a r1
        obtain ⟨bs, q2, k2⟩ := DvL.rd I _ ds _ _ t r2
        exact ⟨_, .cons q1 q2, fun e hm => (List.mem_append.mp hm).elim (k1 e) (k2 e)⟩
end
mutual
theorem Dv.nod (e : m = false) : ∀ (k : Bool) (d : PyData) (v : V), Dv m z H k v d → d.hasDict = false
  | _, .none, _, _ => by simp only [PyData.hasDict]
  | _, .bool _, _, _ => by simp only [PyData.hasDict]
  | _, .int _, _, _ => by simp only [PyData.hasDict]
  | _, .str _, _, _ => by simp only [PyData.hasDict]
  | _, .list ds, _, h => by
    cases h with
    | lst hm ne h t => simp only [PyData.hasDict]; exact DvL.nod e _ ds _ t
  | _, .tuple ds, _, h => by
    cases h with
    | tup ne h t => simp only [PyData.hasDict]; exact DvL.nod e _ ds _ t
  | _, .dict _, _, h => by
    cases h with
    | dct hm ne h => exact absurd (hm.symm.trans e) (by decide)
theorem DvL.nod (e : m = false) : ∀ (k : Bool) (ds : List PyData) (vs : List V), DvL m z H k vs ds → PyData.hasDictAll ds = false
  | _, [], _, _ => by simp only [PyData.hasDictAll]
  | _, d :: ds, _, h => by
    cases h with
    | cons a t => simp only [PyData.hasDictAll, Dv.nod e _ d _ a, DvL.nod e _ ds _ t, Bool.or_self]
end
/-- what can be written out -/
structure Shw (d : PyData) : Prop where
  sh : d.showable = true
  dp : d.depth ≤ 10
  sz : d.shown.length ≤ sizeLine
def rRepr : List V → Hp → VK → Prop := fun xs H Q => ∃ (m : Bool) (z : Addr) (v : V) (d : PyData), xs = [v] ∧ Dv m z H false v d ∧ Shw d ∧ Q (.str d.shown) H
theorem call_repr (hg : X.A.guards = some []) (hu : X.A.units + 64 < cLine) : CallR X (.builtin "repr") rRepr := by
  intro pins s σ H xs us Q I r h; skip
  obtain ⟨m, z, v, d, rfl, hd, S, q⟩ := h
  obtain ⟨u, rfl, ru⟩ := vals1 r; skip
  obtain ⟨as, rd, lo⟩ := Dv.rd I _ d v u hd ru
  have fin : ∀ (a : Addr), u = .ref a → wpAny (model X.prog X.w) X.A (call (.builtin "repr") [u]) (EP X pins σ Q) X.xe s := fun a e => by
    subst e
    refine repr_of_reads' rd S.sh (fun hd2 => ?_) hg (by have := S.dp; omega) (fun _ _ e => e) (fun h' w tk k => ?_) S.sz
    · cases m with
      | true => exact lo rfl
      | false => exact absurd (hd2.symm.trans (Dv.nod rfl _ d v hd)) (by decide)
    · exact ⟨.str d.shown, H, I.kept k, ⟨w, rfl⟩, q⟩
  cases rd with
  | none => exact P.repr_of_none ⟨.str _, H, I.tok _, ⟨_, rfl⟩, by simpa only [PyData.shown] using q⟩
  | bool b => exact P.repr_of_bool ⟨.str _, H, I.tok _, ⟨_, rfl⟩, by cases b <;> simpa only [PyData.shown] using q⟩
  | int i t =>
    have e : decide (i.natAbs.log2 < 1920) = true := by simpa only [PyData.showable] using S.sh
    exact P.repr_of_int (of_decide_eq_true e) ⟨.str _, H, I.tok _, ⟨_, rfl⟩, by simpa only [PyData.shown] using q⟩
  | str x t => exact P.repr_of_str ⟨.str _, H, I.tok _, ⟨_, rfl⟩, by simpa only [PyData.shown] using q⟩ (by simpa only [PyData.shown] using S.sz)
  | list => exact fin _ rfl
  | tuple => exact fin _ rfl
  | dict => exact fin _ rfl
end
end Pl

namespace Pl
open L2 PySem PySem.Spec PyProof.Rows
/-! ### a, b, *c = a tuple -/
theorem shiftW {prog : Program} {w : World} {A : Around} {I : Addr} {fp wr : List Addr} {G : Array GenState → Array GenState → Prop} {n : Nat} {P : Nat → Value → Prop} {St : Nat → Shared → Prop}
    (W : WalksS prog w A I fp wr G n P St) (k : Nat) (hk : k ≤ n) : WalksS prog w A I fp wr G (n - k) (fun i => P (i + k)) (fun i => St (i + k)) where
  sub := W.sub
  grefl := W.grefl
  gtrans := W.gtrans
  frame := fun i => W.frame (i + k)
  item := fun i s Q E hi st hQ => W.item (i + k) s Q E (by omega) st fun v s' hp hs hm => by
    have e : i + 1 + k = i + k + 1 := by omega
    have hs' : St (i + 1 + k) s' := by
      rw [e]
      exact hs
    exact hQ v s' hp hs' hm
  done := fun s Q E st hQ => by
    have e : n - k + k = n := by omega
    have st' : St (n - k + k) s := st
    rw [e] at st'
    exact W.done s Q E st' hQ
  self := fun i => W.self (i + k)
theorem items_eq {items : Array Value} {k : Nat} {acc : Array Value} (h : ItemsOf (fun i v => items[i + k]? = some v) acc (items.size - k)) : acc.toList = items.toList.drop k := by
  obtain ⟨h1, h2⟩ := h
  apply List.ext_getElem?
  intro i
  rw [List.getElem?_drop]
  cases e : acc[i]? with
  | some v =>
    have q := h2 i v e
    rw [Array.getElem?_toList, e, Array.getElem?_toList, Nat.add_comm k i]
    exact q.symm
  | none =>
    have q : acc.size ≤ i := by simpa using e
    rw [Array.getElem?_toList, e, Array.getElem?_toList]
    symm
    rw [Array.getElem?_eq_none_iff]
    omega
section
variable {prog : Program} {w : World} {s : Shared} {E : Value → Shared → Prop} {A : Around}
theorem unpack_star {t : Addr} {items : Array Value} {targets : List (Bool × (Value → Sem Unit))} {k : Nat} {Q : Unit → Shared → Prop} (hh : A.handled = none) (ht : s.heap.IsTuple t items)
    (hn : targets.length = k + 1) (hstar : targets.findIdx? (·.1) = some k) (hk : k ≤ items.size) (hz : items.size ≤ sizeLine)
    (h : ∀ (h2 : Heap) (tk : Nat), (∀ b o, s.heap.get? b = some o → h2.get? b = some o) →
      wpAny (model prog w) A (assignInOrder (targets.map (·.2)) (items.toList.take k ++ [.ref h2.objs.size])) Q E { s with heap := h2.push { cls := .type "list", data := .seq (items.toList.drop k).toArray }, toks := tk }) :
    (wpAny (model prog w) A (unpack (.ref t) targets) Q E s) := by
  have hlt : t ≠ s.heap.objs.size := by
    obtain ⟨o, ho, _⟩ := ht
    exact Nat.ne_of_lt (Heap.lt_size ho); skip
  unfold unpack
  rw [hn, hstar]
  refine wpAny_bind (wpAny_holding ?_); skip
  unfold unpackItems
  refine wpAny_bind ?_
  unfold notIterableAtAll
  refine wpAny_bind (wpAny_specialOf ht.typeIs slot_tuple_iter.lookup (wpAny_pure ?_))
  simp only [Bool.false_eq_true, if_false]; skip
  refine wpAny_bind (wpAny_holding (wpAny_pyIter_tuple ht ?_)); skip
  have W0 := (Walks.tuple (prog := prog) (w := w) (A := A.in1) hh s.heap.objs.size t hlt items).toS
  have i0 : (s.heap.push { cls := .type "tuple_iterator", data := .fields #[.ref t, .int 0 0] }).IsTupleIter s.heap.objs.size t 0 := ⟨_, Heap.get?_push_size _ rfl, rfl, rfl⟩
  refine wpAny_bind (wpAny_holding (wpAny_draw_tuple hlt k 0 _ _ i0 (ht.push _) (by omega) fun h1 it1 sb1 => ?_))
  have elen : (List.take k (List.drop 0 items.toList)).length = k := by
    rw [List.drop_zero, List.length_take, Array.length_toList]
    omega
  rw [if_neg (by rw [elen]; omega)]
  have ht1 : h1.IsTuple t items := (ht.push _).extBut sb1.extBut hlt
  have sz1 : s.heap.objs.size < h1.objs.size := by
    obtain ⟨o, ho, _⟩ := it1
    exact Heap.lt_size ho
  have hold : ∀ b o, s.heap.get? b = some o → h1.get? b = some o := fun b o e => by
    rw [sb1.2 b (Nat.ne_of_lt (Heap.lt_size e))]
    exact Heap.get?_push_of_some _ e; skip
  refine wpAny_bind (wpAny_holding (wpAny_collect_iter (T := "tuple_iterator") (.inr (.inr (.inr rfl))) (shiftW W0 k hk) (fun i s' st => st.1.typeIs) ⟨by simpa using it1, ht1⟩ (fun b hb => ?_) (List.mem_cons_self) (fun s2 acc mv it => ?_) (by omega)))
  · rcases List.mem_cons.mp hb with rfl | hb; skip
    · exact sz1
    · rcases List.mem_cons.mp hb with rfl | hb; skip
      · obtain ⟨o, ho, _⟩ := ht1
        exact Heap.lt_size ho
      · cases hb
  · have ea := items_eq it
    have keep2 : ∀ b o, s.heap.get? b = some o → s2.heap.get? b = some o := fun b o e => mv.heap b o (fun hb => absurd (Heap.lt_size e) ((List.mem_singleton.mp hb) ▸ Nat.lt_irrefl _)) (hold b o e)
    have e1 : k + 1 - 1 - k = 0 := by omega
    rw [e1, if_neg (Nat.not_lt_zero _), Nat.sub_zero]
    have e2 : List.take acc.toList.length acc.toList = acc.toList := List.take_length
    have e3 : List.drop acc.toList.length acc.toList = [] := List.drop_length
    rw [e2, e3]
    obtain ⟨hp2, g2, d2, t2, o2⟩ := s2
    obtain ⟨hp, g, d, t0, os⟩ := s
    obtain rfl : g2 = g := mv.gens
    obtain rfl : d2 = d := mv.drawn
    obtain rfl : o2 = os := mv.os
    refine wpAny_bind (wpAny_newList ?_ ?_)
    · refine wpAny_pure ?_
      rw [List.append_nil, List.drop_zero, ea]
      exact h hp2 t2 keep2
    · rw [ea, List.length_drop, Array.length_toList]
      omega
end
end Pl
namespace Pl
open L2 PySem PySem.Spec PyProof.Rows
section
variable {X : Cx}
theorem pgs_star {e : Expr} {es : List Expr} {t : TG} {u : TGs} {p : Pos} (h1 : PG X e t) (h2 : PGs X es u)
    (hs : (assignEach (.Starred e p :: es) X.env).map (·.2) = assign e X.env :: (assignEach es X.env).map (·.2) := by rfl) : PGs X (.Starred e p :: es) (gCons t u) :=
  ⟨fun pins s σ H vs us Q I r h => by
    obtain ⟨v, vr, rfl, h⟩ := h
    cases r with
    | cons r rr =>
      rw [hs]
      exact assignInOrder_cons (thn (h1.run pins s σ H _ _ _ I r h) fun _ s1 ⟨σ1, H1, I1, q1⟩ => h2.run pins s1 σ1 H1 _ _ Q I1 rr q1)⟩
def gStar (K : PySem.W.Frag) (k : Nat) (t : TGs) : TG := fun v σ H Q => ∃ a xs, v = .ref a ∧ SqT K H a xs ∧ k ≤ xs.length ∧ ∀ p, H p = none → t (xs.take k ++ [.ref p]) σ (upd H p (.lst (xs.drop k))) Q
theorem pg_star {es : List Expr} {j k : Nat} {t : TGs} {pos : Pos} (hc : X.calm = true) (h : PGs X es t) (hn : (assignEach es X.env).length = k + 1 := by rfl)
    (hst : (assignEach es X.env).findIdx? (·.1) = some k := by rfl) : PG X (.Tuple es j pos) (gStar X.K k t) := by
  refine ⟨fun pins s σ H v u Q I r hw => ?_⟩; skip
  obtain ⟨a, xs, rfl, hq, hl, hw⟩ := hw
  cases r
  obtain ⟨its, rv, ht, hz⟩ := I.tuple hq; skip
  rw [assign_Tuple]
  refine wpAny_bind (wpAny_standAt (unpack_star (I.ok.hd hc) ht hn hst (by rw [List.size_toArray, ← rv.length]; exact hl) (by rw [List.size_toArray, ← rv.length]; exact hz) fun h2 tk kp => ?_))
  have I2 : Inv X pins σ H { s with heap := h2, toks := tk } := I.kept kp
  have hf : H h2.objs.size = none := I2.hok.fresh (Nat.le_refl _)
  have rd : Vals (xs.drop k) (its.drop k) := rv.drop k
  have I3 : Inv X pins σ (upd H h2.objs.size (.lst (xs.drop k))) { s with heap := h2.push { cls := .type "list", data := .seq (its.drop k).toArray }, toks := tk } :=
    I2.laid (t' := tk) (fun b u e => Heap.get?_push_of_some _ e) (Nat.le_refl _) ⟨by rw [List.length_drop]; omega, _, 0, rd, Heap.get?_push_size _ rfl⟩
  exact h.run pins _ σ _ _ _ Q I3 ((rv.take k).append (.cons (show RelV (.ref h2.objs.size) (Value.ref h2.objs.size) from rfl) .nil)) (hw _ hf)
end
end Pl

namespace Pl
open L2 PySem PySem.Spec PyProof.Rows
section
variable {prog : Program} {w : World} {s : Shared} {E : Value → Shared → Prop} {A : Around}
/-- a tuple's items, gathered -/
theorem gather_tup {a : Addr} {xs : List Value} {Q : List Value → Shared → Prop} (ht : s.heap.IsTuple a xs.toArray) (hz : xs.length ≤ sizeLine)
    (q : Q xs { s with heap := (s.heap.push (seqObj "list" #[] 0)).update s.heap.objs.size (Obj.mapSeq (· ++ xs.toArray)) }) : wpAny (model prog w) A (collect (.ref a)) Q E s := by
  obtain ⟨ob, e1, e2, k, e3⟩ := id ht
  have e1' : (s.heap.push (seqObj "list" #[] 0)).get? a = some ob := Heap.get?_push_of_some _ e1
  have top : (s.heap.push (seqObj "list" #[] 0)).get? s.heap.objs.size = some (seqObj "list" #[] 0) := Heap.get?_push_size _ rfl
  unfold collect
  refine wpAny_bind (wpAny_runValue (codeAny_builtin entry_proto_collect' ?_)); skip
  show wpAny _ _ (newList [] >>= fun g => again (.builtin "list.__iadd__" ⟨[g, .ref a], []⟩)) _ _ s
  refine wpAny_bind (wpAny_newList (wpAny_pure ⟨Code.quiet_builtin _ (by decide +kernel), codeAny_builtin entry_list_iadd' ?_⟩)); skip
  have go : ∀ (P : PySem.Fin → Shared → Prop) (F : Value → Shared → Prop) (B : Around), P (.done (.ret (.ref s.heap.objs.size))) { s with heap := (s.heap.push (seqObj "list" #[] 0)).update s.heap.objs.size (Obj.mapSeq (· ++ xs.toArray)) } →
      wpAny (model prog w) B (Builtin.List.listExtendWith (.ref s.heap.objs.size) (.ref a) (.ref s.heap.objs.size)) P F { s with heap := s.heap.push (seqObj "list" #[] 0) } := by
    intro P F B hP
    unfold Builtin.List.listExtendWith; skip
    refine wpAny_bind (wpAny_typeOf (T := "tuple") ⟨ob, e1', e2⟩ ?_)
    have two : (Value.type "tuple" == Value.type "tuple") = true := by rfl
    rw [if_pos (by rw [two]; simp)]
    refine wpAny_bind (listItems_at e1' e3 ?_)
    refine wpAny_bind (listItems_at (xs := #[]) (n := 0) top rfl ?_)
    rw [if_neg (by simp)]
    refine wpAny_bind (listUpdate_at (xs := #[]) (n := 0) top rfl ?_ (Nat.zero_le _) (by
      show (#[] ++ xs.toArray).size ≤ sizeLine + 1
      rw [Array.size_append, List.size_toArray]
      show 0 + xs.length ≤ sizeLine + 1
      omega))
    exact wpAny_pure hP
  refine go _ _ _ ?_
  show wpAny (model prog w) A (load s.heap.objs.size >>= _) Q E _
  refine wpAny_bind (wpAny_load (get?_update_seq top _) ?_)
  have e : ((#[] : Array Value) ++ xs.toArray).toList = xs := by simp
  show wpAny _ _ (pure ((#[] : Array Value) ++ xs.toArray).toList) Q E _
  rw [e]
  exact wpAny_pure q
end
end Pl
namespace Pl
open PySem PySem.W PySem.Calls PyProof.Rows L2
section
variable {prog : Program} {w : World} {s : Shared} {E : Value → Shared → Prop} {A : Around}
/-- sorted(a tuple, ..) is the sort of a new list of its items -/
theorem tup_sorted {a : Addr} {xs : List Value} {kw : List (Str × Value)} {Q : Value → Shared → Prop} (ht : s.heap.IsTuple a xs.toArray) (hz : xs.length ≤ sizeLine) (ok1 : argsOk "sorted" ⟨[.ref a], kw⟩) (ok2 : ∀ y, argsOk "list.sort" ⟨[.ref y], kw⟩)
    (run : ∀ F : Value → Shared → Prop, wpAny (model prog w) A.in1.in1 (Builtin.«list.sort» ⟨[.ref (s.heap.objs.size + 1)], kw⟩) (fun f s' => f = .done (.ret .none) ∧ Q (.ref (s.heap.objs.size + 1)) s') F { s with heap := copyHeap s.heap xs }) :
    wpAny (model prog w) A (call (.builtin "sorted") [.ref a] kw) Q E s := by
  refine call_function_entry_kw kind_sorted plain_sorted entry_sorted ok1 ?_
  unfold Builtin.«sorted»
  refine wpAny_bind (m := checkCount "sorted" 1 1 _) (wpAny_pure ?_); skip
  refine wpAny_bind (gather_tup ht hz (wpAny_bind (wpAny_newList ?_ hz)))
  have n1 : ((s.heap.push (seqObj "list" #[] 0)).update s.heap.objs.size (Obj.mapSeq (· ++ xs.toArray))).objs.size = s.heap.objs.size + 1 := by
    rw [Heap.size_update]
    exact size_push' _ _
  show wpAny _ _ _ _ _ { s with heap := copyHeap s.heap xs }
  rw [n1]
  refine wpAny_bind (wpAny_holding (wpAny_call_entry_kw slot_list_sort ⟨_, copyHeap_at s.heap xs, rfl⟩ entry_list_sort ?go (ok2 _)))
  case go =>
    show wpAny (model prog w) A.in1.in1 (Builtin.«list.sort» ⟨[.ref (s.heap.objs.size + 1)], kw⟩) _ _ _; skip
    exact wpAny_mono (run _) (fun f s' ⟨e, q⟩ => ⟨.none, by rw [e], wpAny_pure ⟨_, rfl, q⟩⟩) fun _ _ e => e
section
variable {β : Type} {R : Value → β → Prop} {bs : List β} {vs : List Value}
theorem tup_sorted_data {enc : β → PyData} {a : Addr} {Q : Value → Shared → Prop} (ht : s.heap.IsTuple a vs.toArray) (e : EachIs R vs bs) (er : EachIs (fun v b => ∃ as, Reads s.heap v (enc b) as) vs bs) (hal : AllAlike (bs.map enc)) (hk : Sortable (bs.map enc)) (hL : bs.length ≤ sizeLine)
    (hu : ∀ b, b ∈ bs → A.units + 2 + (enc b).depth < cLine) (q : ∀ out, out.length = bs.length → EachIs R out (bs.mergeSort (dataLe false enc)) → Q (.ref (s.heap.objs.size + 1)) { s with heap := sortedAll s.heap vs (List.toArray out) }) :
    wpAny (model prog w) A (call (.builtin "sorted") [.ref a]) Q E s := by
  have up : EachIs (fun v b => ∃ as, Reads (sortingHeap (copyHeap s.heap vs) (s.heap.objs.size + 1) vs) v (enc b) as) vs bs := er.mono fun _ _ ⟨as, r⟩ => ⟨as, PyProof.Rows.Reads.keeps (fun _ _ => sorting_copy_old) r⟩
  have S := SortsAt.data (prog := prog) (w := w) (A := A.in1.in1) (s := { s with heap := sortingHeap (copyHeap s.heap vs) (s.heap.objs.size + 1) vs }) (each_map (R := fun v d => ∃ as, Reads (sortingHeap (copyHeap s.heap vs) (s.heap.objs.size + 1) vs) v d as) enc up) hal hk (bound_map hu)
  refine tup_sorted ht (by rw [e.length]; exact hL) (args_sorted1 _) (fun _ => args_list_sort _) fun F => ?_
  exact list_sort_vals (s := { s with heap := copyHeap s.heap vs }) (copyHeap_at s.heap vs) S (by rw [e.length]; exact hL) ⟨rfl, q _ (by rw [sortVals_length false rfl]; exact e.length) (sortVals_data false e up hal)⟩
theorem tup_sorted_key {a : Addr} {f : Addr} {Q : Value → Shared → Prop} (k : β → PyData) (ht : s.heap.IsTuple a vs.toArray) (e : EachIs R vs bs) (hal : AllAlike (bs.map k)) (hk : Sortable (bs.map k)) (hL : bs.length ≤ sizeLine)
    (hu : ∀ x, x ∈ bs → A.units + 2 + (k x).depth < cLine)
    (turn : ∀ (v : Value) (x : β), R v x → x ∈ bs → ∀ (h : Heap) (tk : Nat), (∀ c o, s.heap.get? c = some o → h.get? c = some o) →
      wpAny (model prog w) A.in1.in1 (call (.ref f) [v]) (KeyPure (k x) { s with heap := h, toks := tk }) (fun _ _ => False) { s with heap := h, toks := tk })
    (q : ∀ out c h' tk, (∀ b o, s.heap.get? b = some o → h'.get? b = some o) → h'.get? (s.heap.objs.size + 1) = some (seqObj "list" (List.toArray out) c) → out.length = bs.length → EachIs R out (bs.mergeSort (dataLe false k)) →
      (Q (.ref (s.heap.objs.size + 1)) { s with heap := h', toks := tk })) :
    wpAny (model prog w) A (call (.builtin "sorted") [.ref a] [(Str.ofString "key", .ref f)]) Q E s := by
  have up : ∀ {g : Heap}, KeepsBut (s.heap.objs.size + 1) (copyHeap s.heap vs) g → ∀ b o, s.heap.get? b = some o → g.get? b = some o := fun {g} kp b o x => kp b o (Nat.ne_of_lt (Nat.lt_succ_of_lt (Heap.lt_size x))) (copyHeap_old x)
  have zl : (bs.map k).length = vs.length := by
    rw [List.length_map]
    exact e.length.symm
  refine tup_sorted ht (by rw [e.length]; exact hL) (ksk_s1 _ _) (fun _ => ksk_l1 _ _) fun F => ?_
  rw [ksk_t1]
  refine keyH_tree (kz := bs.map k) (s := { s with heap := copyHeap s.heap vs }) (copyHeap_at s.heap vs) zl (by rw [e.length]; exact hL) hal hk (bound_map (A := A.in1.in1) hu)
    (keyH_turns (s := { s with heap := copyHeap s.heap vs }) e fun v x r m h tk kp => turn v x r m h tk (up kp)) fun h' tk out c kp hD ko => ⟨rfl, ?_⟩
  exact q out c h' tk (up kp) hD ((ko.length zl).trans e.length) (keyedOut_each k ko e)
end
end
end Pl

namespace Pl
open L2 PySem PySem.Spec PyProof.Rows
/-- as FnOk, at places where nothing is being written out -/
structure FnG (P : Program) (w : World) (K : PySem.W.Frag) (mg : Str → Option Value) (base : Heap) (k : Nat) (f : Addr) (fd : FuncData) (ps : List Str) (sp : Sp) : Prop where
  len : ∀ us H Q E, sp us H Q E → us.length = ps.length
  run : ∀ (A : Around) (outer : List Env) (s : Shared) (H : Hp) (args : Args) (us : List Value) (vs : List V) (Q : VK) (E : XK), A.guards = some [] → Room k A → Env0 P w K mg base A outer s H → BindsTo s fd args (ps.zip us) → Vals vs us → sp vs H Q E →
    codeAny (model P w) A (.call (.ref f) args) (CR CX0 outer P w H s Q E) s
section
variable {P : Program} {K : PySem.W.Frag} {w : World} {base : Heap} {mg : Str → Option Value}
theorem okG0 {x qual : Str} {st : Stmt} {f : Addr} {N ps : List Str} {k : Nat} {sp : Sp} {oc kV doc pm cdv ct : Value} {od an : Option Addr} {osl : Array (Option Value)} (lk : K.lookup f = some ⟨oc, od, .func (PySem.W.fnOf x qual (defArgs st) (defBody st) (defScope st) .none kV doc pm an cdv ct), osl⟩) (hcd : PySem.W.codeIn K cdv qual = true)
    (S : FnScope N ps (defScope st)) (len : ∀ vs H Q E, sp vs H Q E → vs.length = ps.length)
    (walk : ∀ (A : Around) (outer : List Env) (s : Shared) (H : Hp) (vs : List V) (Q : VK) (E : XK), A.guards = some [] → Room k (A.deeper (envOfC qual (defScope st) s.heap.objs.size f cdv)) → sp vs H Q E →
      ∃ t, PSs (cxOf CX0 P w K mg base N qual (defScope st) f cdv A outer s H E).nox (defBody st) t ∧ t { nx := fun _ H' => Q .non H', rt := Q } (start N vs) H) : FnG P w K mg base (k + 1) f (PySem.W.fnOf x qual (defArgs st) (defBody st) (defScope st) .none kV doc pm an cdv ct) ps sp := by
  refine ⟨len, ?_⟩
  intro A outer s H args us vs Q E hg room env bind rel want
  have kin : K.In s.heap := env.mod.kin.keeps fun b o e => (env.bs b o e).1
  have nol : s.heap.NoLimit := env.mod.nolimit.keeps fun b o e => (env.bs b o e).1
  obtain ⟨t, ht, goal⟩ := walk A outer s H vs Q E hg (room.deeper _) want
  refine codeAny_call_function room.depth (kin _ _ lk) rfl S.co S.gen rfl (PySem.W.codeRec_of kin hcd) (bind _ _ _ _ (wpAny_newFunctionEnv_cells S.kind (fun y hy => ?_) fun env' ee s1 made => ?_))
  · rcases S.par y.1 (List.of_mem_zip (a := y.1) (b := y.2) hy).1 with h | h
    · exact .inl h
    · exact .inr ⟨h, PySem.W.cellsFrom_some _ _ _ (.inl h)⟩
  · subst ee
    refine ⟨nol.keeps made.toInCall.keep, codeAny_func (wpAny_mono (ht.nox.run [] s1 (start N vs) H _ (inv_start S room.hd env (len _ _ _ _ want) rel made) goal) ?_ fun _ _ h => h)⟩
    intro fl s2 h
    match fl, h with
    | .ret u, ⟨v, σ2, H2, J, rv, q⟩ => exact ⟨v, H2, J.os, J.bare, J.base, J.hok, rv, q⟩
    | .next, ⟨σ2, H2, J, q⟩ => exact ⟨V.non, H2, J.os, J.bare, J.base, J.hok, rfl, q⟩
    | .brk, ⟨_, _, _, q⟩ => exact q.elim
    | .cont, ⟨_, _, _, q⟩ => exact q.elim
theorem okG {x qual : Str} {st : Stmt} {f : Addr} {fd : FuncData} {N ps : List Str} {k : Nat} {sp : Sp} (F : Fun K x qual st f fd) (S : FnScope N ps (defScope st)) (len : ∀ vs H Q E, sp vs H Q E → vs.length = ps.length)
    (walk : ∀ (cdv : Value) (A : Around) (outer : List Env) (s : Shared) (H : Hp) (vs : List V) (Q : VK) (E : XK), A.guards = some [] → Room k (A.deeper (envOfC qual (defScope st) s.heap.objs.size f cdv)) → sp vs H Q E →
      ∃ t, PSs (cxOf CX0 P w K mg base N qual (defScope st) f cdv A outer s H E).nox (defBody st) t ∧ t { nx := fun _ H' => Q .non H', rt := Q } (start N vs) H) : FnG P w K mg base (k + 1) f fd ps sp := by
  obtain ⟨oc, od, kV, doc, pm, an, cdv, ct, osl, rfl, lk, hcd⟩ := F.ex; skip
  exact okG0 lk hcd S len fun A outer s H vs Q E => walk cdv A outer s H vs Q E
/-- a def whose code object is known -/
structure FunC (K : PySem.W.Frag) (x qual : Str) (st : Stmt) (f c : Addr) (fd : FuncData) : Prop where
  ex : ∃ (oc : Value) (od : Option Addr) (kV doc pm : Value) (an : Option Addr) (ct : Value) (osl : Array (Option Value)),
    fd = PySem.W.fnOf x qual (defArgs st) (defBody st) (defScope st) .none kV doc pm an (.ref c) ct ∧ K.lookup f = some ⟨oc, od, .func fd, osl⟩ ∧ PySem.W.codeIn K (.ref c) qual = true
theorem okC {x qual : Str} {st : Stmt} {f c : Addr} {fd : FuncData} {N ps : List Str} {k : Nat} {sp : Sp} (F : FunC K x qual st f c fd) (S : FnScope N ps (defScope st)) (len : ∀ vs H Q E, sp vs H Q E → vs.length = ps.length)
    (walk : ∀ (A : Around) (outer : List Env) (s : Shared) (H : Hp) (vs : List V) (Q : VK) (E : XK), A.guards = some [] → Room k (A.deeper (envOfC qual (defScope st) s.heap.objs.size f (.ref c))) → sp vs H Q E →
      ∃ t, PSs (cxOf CX0 P w K mg base N qual (defScope st) f (.ref c) A outer s H E).nox (defBody st) t ∧ t { nx := fun _ H' => Q .non H', rt := Q } (start N vs) H) : FnG P w K mg base (k + 1) f fd ps sp := by
  obtain ⟨oc, od, kV, doc, pm, an, ct, osl, rfl, lk, hcd⟩ := F.ex
  exact okG0 lk hcd S len walk
end
section
variable {X : Cx} {k i : Nat} {f : Addr} {fd : FuncData} {ps : List Str} {sp : Sp} {x : Str} {p pos : Pos} {e : Expr} {es : List Expr} {t : TA}
def tCallG (sp : Sp) (t : TA) : TE := fun σ H Q => t σ H fun vs H1 => sp vs H1 Q (fun _ _ _ => True)
theorem pe_callG (F : FnG X.prog X.w X.K X.mg X.base k f fd ps sp) (hgd : X.A.guards = some []) (hr : Room k X.A) (hg : Gl X x) (hm : X.mg x = some (.ref f)) (hk : PySem.W.keepIn X.K (.ref f) = true) (hb : Binds X.K fd ps []) (ha : PA X (e :: es) t)
    (hdb : ((x == ("__debug__" : Str)) = false) := by decide) (he : starEach (e :: es) X.env = (false, eval e X.env) :: starEach es X.env := by rfl) (hpl : (backTo pos (starEach es X.env)).any (·.1) = false := by rfl) :
    PE X (.Call (.Name x p) (e :: es) [] pos) (tCallG sp t) := by
  constructor
  intro pins s σ H Q I h
  refine wpAny_Call_Name_kw (ld_glob I hg hm (PySem.W.callWith_K (h₀ := X.base) I.ok.mod.kin hk (thn (ha.run pos pins s σ H _ I h) ?_) he hpl) hdb)
  rintro us s1 ⟨vs, H1, I1, r, q⟩
  refine ⟨I1.kIn, ?_⟩
  have hl : us.length = ps.length := r.length.symm.trans (F.len _ _ _ _ q)
  have b := hb s1 us I1.kIn (by rw [List.append_nil]; exact hl)
  rw [List.append_nil] at b
  refine wpAny_call (codeAny_mono (F.run X.A X.stack s1 H1 ⟨us, []⟩ us vs Q _ hgd hr I1.env0 b r q) ?_)
  intro r s2 hq
  match r, hq with
  | .error _, hq => exact False.elim hq
  | .ok (.ret u), hq => exact I1.after hq
  | .ok .next, hq => exact False.elim hq
  | .ok .brk, hq => exact False.elim hq
  | .ok .cont, hq => exact False.elim hq
/-- a def that may raise, held by a local name -/
structure HeldX (P : Program) (w : World) (K : PySem.W.Frag) (mg : Str → Option Value) (base : Heap) (k : Nat) (f : Addr) (sp : Sp) : Prop where
  ex : ∃ (fd : FuncData) (ps : List Str), FnOk P w K mg base (L2.CX P w) k f fd ps sp ∧ PySem.W.keepIn K (.ref f) = true ∧ Binds K fd ps []
def tCallHX (Hd : Addr → Sp → Prop) (i : Nat) (E : L2.St → XK) (t : TA) : TE := fun σ H Q => ∃ f sp, σ[i]? = some (some (.ref f)) ∧ Hd f sp ∧ t σ H fun vs H1 => sp vs H1 Q (E σ)
theorem pe_callHX {E : L2.St → XK} (hr : Room k X.A) (hN : X.N[i]? = some x) (hv : Vis X.env.scope x) (hx : ∀ σ, PassesAt (L2.CX X.prog X.w) X σ (E σ)) (ha : PA X (e :: es) t) (hdb : (x == ("__debug__" : Str)) = false := by decide) (hcd : (x == ("__classdict__" : Str)) = false := by decide)
    (he : (starEach (e :: es) X.env = (false, eval e X.env) :: starEach es X.env) := by rfl) (hpl : ((backTo pos (starEach es X.env)).any (·.1) = false) := by rfl) :
    PE X (.Call (.Name x p) (e :: es) [] pos) (tCallHX (HeldX X.prog X.w X.K X.mg X.base k) i E t) := by
  constructor
  rintro pins s σ H Q I ⟨f, sp, hs, hH, ht⟩
  obtain ⟨fd, ps, F, hk, hb⟩ := hH.ex
  refine wpAny_Call_Name_kw (thn ((pe_var (pos := p) hN hv hdb hcd).run pins s σ H (fun v H1 => v = .ref f ∧ H1 = H) I ⟨.ref f, hs, rfl, rfl⟩) ?_)
  rintro u s1 ⟨v, H1, I1, r1, rfl, rfl⟩
  cases r1
  exact PySem.W.callWith_K (h₀ := X.base) I.ok.mod.kin hk (thn (ha.run pos pins s1 σ _ _ I1 ht) fun us s2 ⟨vs, H2, I2, r, q⟩ => ⟨I2.kIn, run_fnS F hr hb (hx σ) I2 r q⟩) he hpl
/-- isinstance(the caught error, its own class) -/
def rIsX (a : Addr) (cls : Value) (d : Option Addr) (C : Addr) : List V → Hp → VK → Prop := fun xs H Q => xs = [.ref a, .ref C] ∧ cls = .ref C ∧ (∃ (dd : Addr) (fs : List (Str × V)), d = some dd ∧ H dd = some (.xd fs)) ∧ Q (.bl true) H
theorem call_isX {a C : Addr} {oe : Obj} {cls : Value} {d : Option Addr} {pn : List (Addr × Obj)} (hz : Zc cls d oe) (hf : ∃ vs, oe.data = .fields vs) : CallR (X.suite a ((a, oe) :: pn)) (.builtin "isinstance") (rIsX a cls d C) := by
  rintro pins s σ H xs us Q I r ⟨rfl, rfl, ⟨dd, fs, rfl, hd⟩, q⟩
  obtain ⟨u1, u2, rfl, r1, r2⟩ := vals2 r; skip
  obtain rfl : u1 = Value.ref a := r1
  obtain rfl : u2 = Value.ref C := r2
  obtain ⟨ha, _⟩ := I.pin (a, oe) (List.mem_append_left _ List.mem_cons_self)
  obtain ⟨vs, hv⟩ := hf
  obtain ⟨mA, hns, hr⟩ : ObjOk X.prog X.w H s.heap dd (.xd fs) := I.hok dd _ hd
  obtain ⟨od, ho, hl⟩ := lookIn_ns hns; skip
  have J : PySem.W.InstAt s.heap a oe C (some od) := ⟨ha, hz.1, by unfold PySem.W.notCls; rw [hv] <;> rfl, by rw [hz.2]; exact ho⟩
  refine call_isinstance (S := fun _ R s2 => s2 = s ∧ R (.ok (.ret (.bool true))) s2) ?_ ⟨rfl, .bl true, H, I, rfl, q⟩
  rintro prog w A R s2 ⟨rfl, hR⟩
  refine isinstance_outer ?_ (fun z => by cases z)
  unfold Builtin.«isinstance.nested»; skip
  refine wpAny_bind ((J.type (M := model prog w)).at ?_)
  rw [if_pos (beq_self_eq_true _)]; skip
  first
    | exact wpAny_bind (wpAny_rule (hR))
    | exact wpAny_bind (wpAny_rule (wpAny_pure hR))
    | exact wpAny_pure hR
end
end Pl

namespace Pl
open L2 PySem PySem.Spec PyProof.Rows
abbrev SuT := Value × (Addr → Value → Option Addr → TS)
/-- what clauses «except x as n» (all of one name n, slot i) wish of an exception, one behind another -/
def wAll (K : PySem.W.Frag) (i : Nat) (Wo : WX) (D : Ends) : List SuT → WX
  | [] => Wo
  | q :: r => wAs K q.1 i q.2 (wAll K i Wo D r) D
/-- the clauses, each with its class and its suite -/
inductive Cls (X : Cx) (n : Str) : List ExceptHandler → List SuT → Prop
  | nil : Cls X n [] []
  | cons {x : Str} {c : Value} {ts : Addr → Value → Option Addr → TS} {b1 : Stmt} {bs : List Stmt} {p1 p2 : Pos} {hs : List ExceptHandler} {l : List SuT} (names : Names X x c)
      (suite : ∀ (a : Addr) (o : Obj) (k : Value) (d : Option Addr) (pn : List (Addr × Obj)), Zc k d o → (∃ vs, o.data = .fields vs) → PSs (X.suite a ((a, o) :: pn)) (b1 :: bs) (ts a k d)) (rest : Cls X n hs l) :
      Cls X n (.ExceptHandler (some (.Name x p1)) (some n) (b1 :: bs) p2 :: hs) ((c, ts) :: l)
section
variable {X : Cx} {n : Str} {i : Nat} {Wo : WX} {D : Ends} {pins : List (Addr × Obj)} {H : Hp} {σ : L2.St} {s0 s1 : Shared}
/-- an exception of the class k, dict d, at a, on its way past the clauses -/
structure Onway (X : Cx) (pins : List (Addr × Obj)) (σ : L2.St) (H : Hp) (s0 s1 : Shared) (B : Heap) (a : Addr) (k : Value) (d : Option Addr) (g : Heap) : Prop where
  inv : Inv X pins σ H s0
  fly : HandSPX.FlyingZ B (X.env :: X.outer) a (Zc k d) g
  nb : ∀ b o, s0.heap.get? b = some o → b ∉ frs X.stack → B.get? b = some o
  up : s0.heap.UpToSlots g
  new : H a = none
  os : s1.os = s0.os
  bare : AllBare s1.gens
theorem Onway.now {B g : Heap} {a : Addr} {k : Value} {d : Option Addr} (w : Onway X pins σ H s0 s1 B a k d g) : Inv X pins σ H { s1 with heap := g } := w.inv.landed w.nb w.fly.1 w.up w.os w.bare
theorem Onway.far {B g : Heap} {a : Addr} {k : Value} {d : Option Addr} (w : Onway X pins σ H s0 s1 B a k d g) {o : Obj} {vs : Array Value} (ho : g.get? a = some o) (hd : o.data = .fields vs) : a ∉ frs (X.env :: X.outer) := by
  intro m
  obtain ⟨_, o2, e2, nf⟩ := w.fly.2.2.1.mem m
  cases ho.symm.trans e2
  exact nf _ hd
theorem clauses (hs : X.stack = X.env :: X.outer) (hf : X.env.frame = some X.env.locals) (nd : X.N.Nodup) (hi : X.N[i]? = some n) (hn : X.env.kindOf n = some .local) (tk : Takes X Wo) {B : Heap} {a : Addr} {k : Value} {d : Option Addr} {hds : List ExceptHandler} {l : List SuT} (cl : Cls X n hds l) :
    ∀ g : Heap, Onway X pins σ H s0 s1 B a k d g → wAll X.K i Wo D l k d σ H → wpAny (model X.prog X.w) X.A (handleBy (.ref a) X.env hds) (SP X pins D) X.xe { s1 with heap := g } := by
  induction cl with
  | nil =>
    intro g w hw
    refine wpAny_handleBy_nil ?_
    obtain ⟨_, _, _, o, vs, T, _, _, ho, _, hd, h1, _⟩ := id w.fly
    have last : wpAny (model X.prog X.w) X.A (setFlight (.ref a) X.env.frame) (fun _ s4 => wpAny (model X.prog X.w) X.A (throw (.ref a) : Sem Flow) (SP X pins D) X.xe s4) X.xe { s1 with heap := g } := by
      rw [hf]
      exact HandSPX.setFlight_upZ w.fly fun h4 held more => wpAny_throw (tk _ _ ⟨a, B, s0, pins, σ, H, k, d, rfl, w.inv, w.nb, w.up.trans more, .inr (.inr (hs ▸ held)), w.new, w.os, w.bare, hw⟩)
    unfold PySem.passOn
    refine wpAny_bind (wpAny_field ho hd h1 ?_)
    rw [if_neg (by simp : ¬ ((Value.ref T == Value.none) = true))]
    first | exact wpAny_bind last | exact wpAny_bind (wpAny_pure (wpAny_bind last))
  | @cons x c ts b1 bs p1 p2 hds2 l2 names suite rest ih =>
    intro g w hw
    obtain ⟨b, hb, yes, no⟩ := hw
    obtain ⟨o, vs, ho, hz, hd⟩ := w.fly.there
    have notL : a ≠ X.env.locals := fun e => w.far ho hd (List.mem_filterMap.mpr ⟨X.env, List.mem_cons_self, by rw [hf, e]⟩)
    have notF : a ∉ X.fs := fun m => by
      obtain ⟨e, he, q⟩ := List.mem_filterMap.mp m
      exact w.far ho hd (List.mem_filterMap.mpr ⟨e, List.mem_cons_of_mem _ he, q⟩)
    refine wpAny_handleBy_cons (codeAny_handlers_test ?_) (fun q => by cases q)
    have look : PySem.W.Looks (model X.prog X.w) g (typeOf (.ref a)) k := fun A Q E s kp q => wpAny_typeOf_ref (kp _ _ ho) (hz.1 ▸ q)
    have told := PySem.W.exm_one (M := model X.prog X.w) w.now.kIn look hb
    have inS := w.now.suite ho hd w.new notL notF
    have asked : ∀ {Q E : Value → Shared → Prop}, Q c { s1 with heap := g } → wpAny (model X.prog X.w) (X.A.mark (some (.ref a))) (eval (.Name x p1) X.env) Q E { s1 with heap := g } := fun {Q E} q => by
      rcases names with ⟨gl, db, m | ⟨m, v, nn⟩⟩
      · exact ld_glob (X := X.suite a ((a, o) :: (X.pn ++ pins))) inS gl m q db
      · exact ld_blt (X := X.suite a ((a, o) :: (X.pn ++ pins))) inS gl m v q nn db
    refine asked (told.here ?_)
    cases b with
    | false => exact ih g w (no rfl)
    | true =>
      refine codeAny_handlers_suite_as (HandSPX.lands_againZ w.fly fun g4 fly4 up4 => ?_)
      have w4 : Onway X pins σ H s0 s1 B a k d g4 := ⟨w.inv, fly4, w.nb, w.up.trans up4, w.new, w.os, w.bare⟩
      obtain ⟨o4, vs4, ho4, hz4, hd4⟩ := w4.fly.there
      refine store_ok (X := X.suite a ((a, o4) :: (X.pn ++ pins))) (v := .ref a) (w4.now.suite ho4 hd4 w4.new notL notF) nd hi (.inl hn) rfl (fun s5 I5 => ?_) (.inr hn)
      refine wpAny_mono ((suite a o4 k d (X.pn ++ pins) hz4 ⟨_, hd4⟩).run [] s5 _ H _ I5 (yes rfl a w4.new)) (fun f s6 hsp => ?_) (fun _ _ z => z.elim)
      have behind : ∀ {σ6 : L2.St} {H6 : Hp} {Q : Shared → Prop}, Inv (X.suite a ((a, o4) :: (X.pn ++ pins))) [] σ6 H6 s6 → (∀ s7, Inv X pins (σ6.set i none) H6 s7 → Q s7) →
          wpAny (model X.prog X.w) X.A (do bindName X.env n .none; unbindBehindTheSuite X.env n p2) (fun _ s7 => Q s7) X.xe s6 := fun {σ6 H6 Q} I6 q => gone_ok (I6.unsuite w.inv.ok) nd hi hn q
      cases f with
      | ret u =>
        obtain ⟨v, σ6, H6, I6, r, q⟩ := hsp
        exact behind I6 fun s7 I7 => ⟨_, _, _, I7, r, q⟩
      | next =>
        obtain ⟨σ6, H6, I6, q⟩ := hsp
        exact behind I6 fun s7 I7 => ⟨_, _, I7, q⟩
      | brk =>
        obtain ⟨σ6, H6, I6, q⟩ := hsp
        exact behind I6 fun s7 I7 => ⟨_, _, I7, q⟩
      | cont =>
        obtain ⟨σ6, H6, I6, q⟩ := hsp
        exact behind I6 fun s7 I7 => ⟨_, _, I7, q⟩
/-- try: body / except x as n: .. / except y as n: .. -/
theorem ps_try_all {body : List Stmt} {h0 : ExceptHandler} {hds : List ExceptHandler} {l : List SuT} {pos : Pos} {tb : WX → TS} (hs : X.stack = X.env :: X.outer) (hf : X.env.frame = some X.env.locals) (nd : X.N.Nodup) (hi : X.N[i]? = some n) (hn : X.env.kindOf n = some .local) (tk : Takes X Wo)
    (hb : ∀ (W : WX) (pn : List (Addr × Obj)) (xe : Value → Shared → Prop), Takes (X.tr pn xe) W → PassesOwn (model X.prog X.w) X.A X.env xe → PSs (X.tr pn xe) body (tb W)) (cl : Cls X n (h0 :: hds) l) :
    PS X (.Try body (h0 :: hds) [] [] pos) (fun D σ H => tb (wAll X.K i Wo D l) D σ H) := by
  constructor
  intro pins s σ H D I h
  have ok := I.ok
  have frames : X.A.frames = some (X.env :: X.outer) := by rw [ok.frames, hs]
  refine wpAny_Try_except (wpAny_mono ((hb (wAll X.K i Wo D l) (X.pn ++ pins) (fun e sa => wpAny (model X.prog X.w) X.A (noteFrame e X.env) (fun _ sb => wpAny (model X.prog X.w) X.A (setFlight e none) (fun _ sc =>
    wpAny (model X.prog X.w) X.A (handleBy e X.env (h0 :: hds)) (SP X pins D) X.xe sc) X.xe sb) X.xe sa) (fun u s1 thrown => ?_) PassesOwn.looking).run [] s σ H D (I.toTry _) h) (fun f s1 hsp => ?_) (fun _ _ z => z))
  · obtain ⟨a, B, s0, ps, σ1, H1, k, d, rfl, I1, nb, up, sky, new, os, bare, hw⟩ := thrown
    refine Sky.land Zc.steady frames hf (hs ▸ sky) fun g fly more => ?_
    exact clauses hs hf nd hi hn tk cl g ⟨I1.ofTry ok, fly, nb, up.trans more, new, os, bare⟩ hw
  · cases f with
    | ret u =>
      obtain ⟨v, σ1, H1, I1, r, q⟩ := hsp
      exact ⟨v, σ1, H1, I1.ofTry ok, r, q⟩
    | next =>
      obtain ⟨σ1, H1, I1, q⟩ := hsp
      exact wpAny_execs_nil ⟨σ1, H1, I1.ofTry ok, q⟩
    | brk =>
      obtain ⟨σ1, H1, I1, q⟩ := hsp
      exact ⟨σ1, H1, I1.ofTry ok, q⟩
    | cont =>
      obtain ⟨σ1, H1, I1, q⟩ := hsp
      exact ⟨σ1, H1, I1.ofTry ok, q⟩
end
end Pl

namespace Pl
open L2 PySem PySem.Spec PyProof.Rows
/-- the law is entered: tables (of code objects; cs: both) stand empty, nothing is being written out -/
theorem law_callM {P : Program} {w : World} {K : PySem.W.Frag} {mg mb : Str → Option Value} {k : Nat} {fa a : Addr} {cs : List (Addr × Addr)} {fd : FuncData} {x : Str} {sp : Sp} {t : Shared} {us : List Value} {ns : List Int}
    (kin : K.In t.heap) (gns : t.heap.Ns mainGlobals mg) (bns : t.heap.Ns builtinsNs mb) (bbt : ∀ y : Str, y ≠ "__name__" → mb y = bootBuiltins y) (nol : t.heap.NoLimit) (gen : t.gens = #[])
    (tab : ∀ q ∈ cs, t.heap.get? q.2 = some { cls := .none, data := .fields #[] }) (notK : ∀ q ∈ cs, K.lookup q.2 = none) (hc : ∀ q ∈ cs, PySem.W.CodeHd t.heap q.1 q.2)
    (bmn : ∃ (bm : Addr) (ob : Obj), mg "__builtins__" = some (.ref bm) ∧ bm ≠ builtinsNs ∧ t.heap.get? bm = some ob ∧ ob.cls = .type "module" ∧ ob.dict = some builtinsNs ∧ ob.data = .plain)
    (la : t.heap.get? a = some { cls := .type "list", data := .seq us.toArray }) (nums : IntsAre us ns) (short : ns.length ≤ sizeLine) (room : Room k callerA)
    (fn : ∀ base : Heap, K.In base → base.Ns mainGlobals mg → (∀ q ∈ cs, LamX.TabB base mg q.1 q.2) → FnG P w K mg base k fa fd [x] sp) (bind : ∀ (s : Shared) (u : Value), BindsTo s fd ⟨[u], []⟩ [(x, u)])
    (want : ∀ H : Hp, (∀ q ∈ cs, H q.2 = some (.tbl #[])) → SqL K H a (ns.map V.int) → sp [.ref a] H (fun v _ => v = .bl true) fun _ _ _ => True) :
    codeAny (model P w) callerA (.call (.ref fa) ⟨[.ref a], []⟩) (fun r s2 => r = .ok (.ret (.bool true)) ∧ OldK t.heap s2.heap ∧ s2.os = t.os ∧ AllBare s2.gens) t := by
  have rel := vals_ints nums
  have count := nums.length
  have at_ : ∀ b, (∃ q ∈ cs, b = q.2) → t.heap.get? b = some { cls := .none, data := .fields #[] } := fun b ⟨q, hq, e⟩ => e ▸ tab q hq
  have aPt : ¬ ∃ q ∈ cs, a = q.2 := fun e => by
    rw [at_ a e] at la
    have z : Data.fields #[] = Data.seq us.toArray := congrArg Obj.data (Option.some.inj la)
    cases z
  have main : ∀ H : Hp, (∀ q ∈ cs, H q.2 = some (.tbl #[])) → (∀ b, H b = none ∨ (∃ q ∈ cs, b = q.2) ∨ ∃ o xs, H b = some (.frz o (.lst xs))) → SqL K H a (ns.map V.int) → HOk P w H t.heap → (∀ b, H b ≠ none → b = a ∨ ∃ q ∈ cs, b = q.2) → (H a ≠ none → K.lookup a = none) →
      codeAny (model P w) callerA (.call (.ref fa) ⟨[.ref a], []⟩) (fun r s2 => r = .ok (.ret (.bool true)) ∧ OldK t.heap s2.heap ∧ s2.os = t.os ∧ AllBare s2.gens) t := by
    intro H hPt kinds seq ok only free
    have look : ∀ {b : Addr} {o : Obj}, t.heap.get? b = some o → H b = none → (hidT t.heap H).get? b = some o := fun {b o} e n => hidT_get e n
    have off : ∀ {b : Addr} {o : Obj}, t.heap.get? b = some o → (∀ ws n, o.data ≠ .seq ws n) → o.data ≠ .fields #[] → H b = none := fun {b o} e n1 n2 => by
      cases hb : H b with
      | none => rfl
      | some u =>
        rcases only b (by rw [hb]; simp) with rfl | isT
        · rw [la] at e
          cases e
          exact absurd rfl (n1 _ _)
        · rw [at_ b isT] at e
          cases e
          exact absurd rfl n2
    have nspace : ∀ {b : Addr} {m : Str → Option Value}, t.heap.Ns b m → (hidT t.heap H).Ns b m := fun {b m} ⟨o, es, ep, e, d, r⟩ =>
      ⟨o, es, ep, look e (off e (fun ws n z => by rw [d] at z; cases z) fun z => by rw [d] at z; cases z), d, r⟩
    have kbase : K.In (hidT t.heap H) := fun b o e => look (kin b o e) (by
      cases hb : H b with
      | none => rfl
      | some u =>
        rcases only b (by rw [hb]; simp) with rfl | ⟨q, hq, rfl⟩
        · rw [free (by rw [hb]; simp)] at e
          cases e
        · rw [notK q hq] at e
          cases e)
    obtain ⟨mc, l1, l2⟩ := nol
    have modu : L2.Mod K mg (hidT t.heap H) := ⟨kbase, nspace gns, ⟨mb, nspace bns, bbt⟩, mc, nspace l1, l2⟩
    have tabs : ∀ q ∈ cs, LamX.TabB (hidT t.heap H) mg q.1 q.2 := fun q hq => by
      have tabq := tab q hq
      obtain ⟨oc, fs, file, tf, flags, tg, inF, text, tt, e1, r1, r2, r3, r4, r5, r6, r7, r8, r9⟩ := id (hc q hq)
      obtain ⟨bm, ob, b1, b2, b3, b4, b5, b6⟩ := bmn
      obtain ⟨og, eg, epg, g1, g2, _⟩ := id gns
      refine ⟨⟨oc, fs, file, tf, flags, tg, inF, text, tt, look e1 (off e1 (fun ws n z => ?_) fun z => ?_), r1, r2, r3, r4, r5, r6, r7, r8, r9⟩, ⟨bm, ob, b1, b2, fun z => ?_, fun z => ?_, look b3 (off b3 (fun ws n z => ?_) fun z => ?_), b4, b5, b6⟩, fun z => ?_⟩
      · rw [r2] at z
        cases z
      · rw [r2] at z
        cases z
        simp at r3
      · rw [z, g1] at b3
        cases b3
        rw [g2] at b6
        cases b6
      · rw [z, tabq] at b3
        cases b3
        cases b6
      · rw [b6] at z
        cases z
      · rw [b6] at z
        cases z
      · rw [z, tabq] at g1
        cases g1
        cases g2
    have env : Env0 P w K mg (hidT t.heap H) callerA [] t H := ⟨rfl, modu, fun b o e => of_hidT e, Nat.le_of_eq (hidT_size _ _), trivial, (fun b hb => absurd (show b ∈ ([] : List Addr) from hb) List.not_mem_nil), ok, .of_eq gen⟩
    refine codeAny_mono ((fn _ kbase (nspace gns) tabs).run callerA [] t H ⟨[.ref a], []⟩ [.ref a] [.ref a] _ _ rfl room env (bind t (.ref a)) (.cons rfl .nil) (want H hPt seq)) ?_
    intro r s2 hr
    match r, hr with
    | .error _, hr => exact False.elim hr
    | .ok .next, hr => exact False.elim hr
    | .ok .brk, hr => exact False.elim hr
    | .ok .cont, hr => exact False.elim hr
    | .ok (.ret u), ⟨v, H2, os, bare, un, ok2, ru, ev⟩ =>
      obtain rfl : v = .bl true := ev
      obtain rfl : u = Value.bool true := ru
      have stay : ∀ b o, (¬ ∃ q ∈ cs, b = q.2) → t.heap.get? b = some o → s2.heap.get? b = some o := fun b o nb e => by
        rcases kinds b with hb | hb | ⟨ob, xs, hb⟩
        · exact un.keep b o e hb (fun z => absurd (show b ∈ ([] : List Addr) from z) List.not_mem_nil) (by simp)
        · exact absurd hb nb
        · obtain ⟨i1, _⟩ := ok b _ hb
          obtain ⟨i2, _⟩ := ok2 b _ (un.frzs b ob _ hb)
          rw [e] at i1
          cases i1
          exact i2
      have now : ∀ q ∈ cs, ∃ more : Array Value, s2.heap.get? q.2 = some { cls := .none, data := .fields (#[] ++ more) } := fun q hq => by
        obtain ⟨more, grow⟩ := un.tbls q.2 #[] (hPt q hq)
        exact ⟨more, ok2 q.2 _ grow⟩
      refine ⟨rfl, ⟨fun b o e => ?_, fun b o e => ?_⟩, os, bare⟩; skip
      · by_cases hb : ∃ q ∈ cs, b = q.2
        · obtain ⟨q, hq, rfl⟩ := hb
          obtain ⟨more, hm⟩ := now q hq
          have tabq := tab q hq
          rw [tabq] at e
          cases e
          exact .inr (.inl ⟨((hc q hq).tab tabq).isCodeTable, rfl, #[], more, rfl, hm⟩)
        · exact .inl (stay b o hb e)
      · by_cases hb : ∃ q ∈ cs, b = q.2
        · obtain ⟨q, hq, rfl⟩ := hb
          obtain ⟨more, hm⟩ := now q hq
          exact ⟨_, hm⟩
        · exact ⟨o, stay b o hb e⟩
  cases hk : K.lookup a with
  | some o =>
    have e := kin a o hk
    rw [la] at e
    cases e
    refine main (fun b => if ∃ q ∈ cs, b = q.2 then some (.tbl #[]) else none) (fun q hq => if_pos ⟨q, hq, rfl⟩) (fun b => ?_) (.inr ⟨_, us.toArray, _, hk, rfl, rfl, rfl, by rw [List.size_toArray, count]; exact short, by simpa using rel⟩) (fun b u z => ?_) (fun b z => ?_) fun z => absurd (if_neg aPt) z
    · by_cases hb : ∃ q ∈ cs, b = q.2
      · exact .inr (.inl hb)
      · exact .inl (if_neg hb)
    · by_cases hb : ∃ q ∈ cs, b = q.2
      · have z2 := (if_pos hb).symm.trans z
        cases z2
        exact at_ b hb
      · have z2 := (if_neg hb).symm.trans z
        cases z2
    · by_cases hb : ∃ q ∈ cs, b = q.2
      · exact .inr hb
      · exact absurd (if_neg hb) z
  | none =>
    refine main (fun b => if b = a then some (.frz { cls := .type "list", data := .seq us.toArray } (.lst (ns.map V.int))) else if ∃ q ∈ cs, b = q.2 then some (.tbl #[]) else none) (fun q hq => (if_neg (fun e => aPt ⟨q, hq, e.symm⟩)).trans (if_pos ⟨q, hq, rfl⟩)) (fun b => ?_) (.inl (.inr ⟨_, if_pos rfl⟩)) (fun b u z => ?_) (fun b z => ?_) fun _ => hk
    · by_cases h1 : b = a
      · exact .inr (.inr ⟨_, _, if_pos h1⟩)
      · by_cases h2 : ∃ q ∈ cs, b = q.2
        · exact .inr (.inl h2)
        · exact .inl ((if_neg h1).trans (if_neg h2))
    · by_cases h1 : b = a
      · have z2 := (if_pos h1).symm.trans z
        cases z2
        rw [h1]
        exact ⟨la, by rw [List.length_map]; exact short, us, _, rel, la⟩
      · have z2 := (if_neg h1).symm.trans z
        by_cases h2 : ∃ q ∈ cs, b = q.2
        · have z3 := (if_pos h2).symm.trans z2
          cases z3
          exact at_ b h2
        · have z3 := (if_neg h2).symm.trans z2
          cases z3
    · by_cases h1 : b = a
      · exact .inl h1
      · by_cases h2 : ∃ q ∈ cs, b = q.2
        · exact .inr h2
        · exact absurd ((if_neg h1).trans (if_neg h2)) z
/-- what the top leaves of the law: T, the tables with the names of what is made there -/
def LawM (l : PySem.W.OpenLaw) (w : World) (K : PySem.W.Frag) (mg : Str → Option Value) (fa : Addr) (h : Heap) (k : Nat) (sp : List (Addr × Addr) → Sp) : Prop :=
  ∃ (fd : FuncData) (cs : List (Addr × Addr)), (∀ q ∈ cs, h.get? q.2 = some { cls := .none, data := .fields #[] }) ∧ (∀ q ∈ cs, K.lookup q.2 = none) ∧ (∀ q ∈ cs, PySem.W.CodeHd h q.1 q.2) ∧ (∀ (s : Shared) (u : Value), BindsTo s fd ⟨[u], []⟩ [("_law_script", u)]) ∧
    ∀ base : Heap, K.In base → base.Ns mainGlobals mg → (∀ q ∈ cs, LamX.TabB base mg q.1 q.2) → FnG l.prog w K mg base k fa fd ["_law_script"] (sp cs)
theorem walkM {l : PySem.W.OpenLaw} {n k : Nat} {qp : Program} {loose : List Str} {XP : (Str → Option Value) → Heap → Prop} {YP : World → Heap → Prop} {d : DefRec} {K : Params → PySem.W.Frag} {sp : World → List (Addr × Addr) → Sp}
    (hn : l.most = some n) (hn2 : n ≤ sizeLine) (hdf : d.params.defaults = []) (room : Room k callerA) (hY : ∀ (w : World) (h : Heap), YP w h → (K w.params).In h)
    (want : ∀ (w : World) (cs : List (Addr × Addr)) (H : Hp) (a : Addr) (ns : List Int), (∀ q ∈ cs, H q.2 = some (.tbl #[])) → SqL (K w.params) H a (ns.map V.int) → sp w cs [.ref a] H (fun v _ => v = .bl true) fun _ _ _ => True)
    (F : ∀ (w : World) (mg : Str → Option Value) (fa : Addr) (h : Heap), YP w h → (K w.params).In h → h.Ns mainGlobals mg → mg d.name = some (.ref fa) → LawM l w (K w.params) mg fa h k (sp w)) :
    PySem.W.WalkO qp loose XP YP l.row.toRowW d [] (fun f vs => PySem.call f vs) := by
  refine Att.attach_callB hn hdf ?_
  intro w s₀ s₁ mg mb fa o pm cd doc a vs ns G Y ho hd hcd hmg hobj hints hlen hbits hg
  obtain ⟨fd, cs, tab, notK, hc, bind, fn⟩ := F w mg fa _ Y (hY w _ Y) G.T.g hmg
  exact law_callM (hY w _ Y) G.T.g G.T.b G.T.builtins G.T.nolimit hg tab notK hc G.T.bmain hobj hints (Nat.le_trans hlen hn2) room fn bind fun H hPt seq => want w cs H a ns hPt seq
end Pl

namespace Pl
open L2 PySem PySem.Spec PyProof.Rows
set_option maxHeartbeats 4100000 in
/-- enumerate(v) of anything that begins so -/
theorem meets_enumB {v : Value} {o : Obj} {Hb : Heap → Prop} (B : Begins v o Hb) :
    Meets (Builtin.«enumerate.__new__» ⟨[.type "enumerate", v], []⟩) (fun _ R s => Hb s.heap ∧
      R (.ok (.ret (.ref (s.heap.push o).objs.size))) { s with heap := (s.heap.push o).push { cls := .type "enumerate", data := .fields #[.none, .bool false, .ref s.heap.objs.size, rawInt 0, .none, .none] } }) := by
  refine .of_wp ?_
  rintro prog w A R ⟨hp, gn, dr, tk, os⟩ ⟨h1, goal⟩
  have isub := sub_enumerate
  have first_ : ∀ {A' : Around} {E : Value → Shared → Prop} {Q : Value → Shared → Prop}, Q (.ref hp.objs.size) ⟨hp.push o, gn, dr, tk, os⟩ → wpAny (model prog w) A' (pyIter v) Q E ⟨hp, gn, dr, tk, os⟩ := fun q => B.iter prog w _ _ ⟨hp, gn, dr, tk, os⟩ _ h1 q
  wp_walk using first_
  refine wpAny_stack_any fun st => wpAny_pure ?_; skip
  split
  · rename_i c _ _ _ _ _
    cases (c == Value.type "enumerate") <;> (wp_walk using first_; exact ⟨_, rfl, goal⟩)
  · wp_walk using first_
    exact ⟨_, rfl, goal⟩
theorem enum_new {prog : Program} {w : World} {A : Around} {E : Value → Shared → Prop} {s : Shared} {v : Value} {o : Obj} {Hb : Heap → Prop} {Q : Value → Shared → Prop} (B : Begins v o Hb) (h1 : Hb s.heap)
    (q : ∀ g, IsEnum g (s.heap.objs.size + 1) s.heap.objs.size 0 .none → g.get? s.heap.objs.size = some o → (∀ b u, s.heap.get? b = some u → g.get? b = some u) → Q (.ref (s.heap.objs.size + 1)) { s with heap := g }) :
    wpAny (model prog w) A (call (.type "enumerate") [v]) Q E s := by
  refine callType_new F.called_enumerate (by decide) (F.typeCall_enumerate_1 _) (F.newCall_enumerate_1 _) (fun obj => F.args_object_init_2 obj _) F.entry_enumerate_new (meets_enumB B) ⟨h1, ?_⟩
  have size : (s.heap.push o).objs.size = s.heap.objs.size + 1 := Heap.size_push ..
  have at_ := Heap.get?_push_size (s.heap.push o) (o := { cls := .type "enumerate", data := .fields #[.none, .bool false, .ref s.heap.objs.size, rawInt 0, .none, .none] }) rfl
  rw [size] at at_
  show _ ∧ _
  rw [size]
  exact ⟨⟨_, at_, rfl⟩, q _ at_ (Heap.get?_push_of_some _ (Heap.get?_push_size _ B.free)) fun b u e => Heap.get?_push_of_some _ (Heap.get?_push_of_some _ e)⟩
/-- the tuple at a, each item with its number in a new pair -/
def Iet (K : PySem.W.Frag) (a : Addr) : It :=
  ⟨fun i H => ∃ (xs : List V) (x : V), SqT K H a xs ∧ xs[i]? = some x, fun i H v G => ∃ T x, v = .ref T ∧ H T = none ∧ G = upd H T (.tup [.int (i : Nat), x]) ∧ ∀ xs, SqT K H a xs → xs[i]? = some x, fun i H => ∃ xs : List V, SqT K H a xs ∧ xs.length = i⟩
theorem turn_enumT {P : Program} {w : World} {K : PySem.W.Frag} {elts : List Expr} {kk : Nat} {tpos : Pos} (a e it : Addr) :
    Turn P w K (.Tuple elts kk tpos) (Iet K a) [e, it] e (fun i h => (∃ old, IsEnum h e it ((i : Nat) : Int) old) ∧ h.IsTupleIter it a i ∧ e ≠ it ∧ a ≠ it ∧ a ≠ e) where
  mem := List.mem_cons_self
  obj := by
    rintro i h ⟨⟨old, he⟩, ⟨o, ho, hc, hd⟩, _⟩ b hb
    rcases List.mem_cons.mp hb with rfl | hb; skip
    · exact ⟨_, he, fun v q => nomatch q⟩
    · rw [List.mem_singleton.mp hb]; skip
      exact ⟨o, ho, fun v q => by rw [hd] at q; cases q⟩
  keep := by
    rintro i h g ⟨⟨old, he⟩, hit, n⟩ k
    exact ⟨⟨old, k e (by simp) _ he⟩, hit.at fun o q => k it (by simp) o q, n⟩
  item := by
    rintro X rfl rfl rfl hc i pins s σ H E I hf ⟨⟨old, he⟩, hit, n1, n2, n3⟩ ⟨xs, x, hq, hx⟩
    obtain ⟨its, rv, p, hz⟩ := I.tuple hq; skip
    obtain ⟨u, hu, ru⟩ := rv.get hx; skip
    have le : e < s.heap.objs.size := Heap.lt_size he
    have li : it < s.heap.objs.size := by
      obtain ⟨_, q, _⟩ := hit
      exact Heap.lt_size q
    have lt : i < its.toArray.size := by
      rw [List.size_toArray]
      exact (List.getElem?_eq_some_iff.mp hu).1
    refine wpAny_pyNext_enum_itemD (Draws.tuple (A := X.A.in1) (I.ok.hd hc) it a n2 its.toArray) he ⟨hit, p⟩ lt n1 (by simp [n1, n3.symm]) fun y g tk hy ho st hT size hk => ?_
    have ey : y = u := by
      have e1 : its[i]? = some y := by simpa using hy
      exact Option.some.inj (e1.symm.trans hu)
    subst ey
    refine ⟨_, rfl, wpAny_letOwnedTupleGo_enum (s := { s with heap := g, toks := tk + 1 }) ho fun g2 he2 sb => ?_⟩
    have hT2 : g2.get? s.heap.objs.size = some { cls := .type "tuple", data := .seq #[.int i tk, y] } := (sb.2 _ (Nat.ne_of_gt le)).trans hT
    have new : ObjOk X.prog X.w (upd H s.heap.objs.size (.tup [.int (i : Nat), x])) g2 s.heap.objs.size (.tup [.int (i : Nat), x]) := ⟨by show 2 ≤ sizeLine; decide, [.int i tk, y], .cons ⟨_, rfl⟩ (.cons ru .nil), ⟨_, hT2, rfl, _, rfl⟩⟩
    have I1 : Inv X pins σ (upd H s.heap.objs.size (.tup [.int (i : Nat), x])) { s with heap := g2, toks := tk + 1 } :=
      I.turnedNew (ch := [e, it])
        (fun b ob hb q => (sb.2 b (fun z => hb (by simp [z]))).trans (hk b ob (fun z => hb (by simp [z])) (fun z => hb (by simp [z])) q)) hf (Nat.le_refl _) new
    refine ⟨.ref s.heap.objs.size, _, I1, rfl, ⟨_, x, rfl, I.hok.fresh (Nat.le_refl _), rfl, fun ys hy => ?_⟩, ⟨⟨y, ?_⟩, st.1.at fun o q => (sb.2 it (Ne.symm n1)).trans q, n1, n2, n3⟩, fun b hb => ?_⟩
    · rw [I.tuple_inj hy hq]
      exact hx
    · rw [show ((i + 1 : Nat) : Int) = (i : Int) + 1 from by omega]
      exact he2
    · have lb : b < s.heap.objs.size := by
        rcases List.mem_cons.mp hb with rfl | hb; skip
        · exact le
        · rw [List.mem_singleton.mp hb]; skip
          exact li
      rw [upd_ne (Nat.ne_of_lt lb)]
      exact (hf b hb).1
  done := by
    rintro X rfl rfl rfl hc i pins s σ H E I hf ⟨⟨old, he⟩, hit, n1, n2, n3⟩ ⟨xs, hq, hx⟩
    obtain ⟨its, rv, p, hz⟩ := I.tuple hq; skip
    obtain ⟨f0, f1, f2, f3, f4, f5⟩ := hf it (by simp); skip
    have len : its.toArray.size = i := by
      rw [List.size_toArray, ← rv.length]
      exact hx
    subst len
    exact wpAny_pyNext_enum_endD (Draws.tuple (A := X.A.in1) (I.ok.hd hc) it a n2 its.toArray) he ⟨hit, p⟩ fun g eb => ⟨rfl, I.turned (t' := s.toks) (fun b o hb q => eb b o hb q) f0 f1 f3 f4 f5⟩
  self := fun A i s Q E st hh => let ⟨⟨_, he⟩, _⟩ := st; wpAny_pyIter_enum he hh
def iEnumT (K : PySem.W.Frag) (ta : TA) : TI := fun σ H R => ta σ H fun vs H1 => ∃ a xs, vs = [.ref a] ∧ SqT K H1 a xs ∧ R (Iet K a) H1
theorem pi_enumT {X : Cx} {e : Expr} {ta : TA} {p pos tpos : Pos} {elts : List Expr} {kk : Nat} (hg : Gl X "enumerate") (hm : X.mg "enumerate" = none) (ha : PA X [e] ta) (hs : (starEach [e] X.env = [(false, eval e X.env)]) := by rfl) :
    PI X (.Tuple elts kk tpos) (.Call (.Name "enumerate" p) [e] [] pos) (iEnumT X.K ta) := by
  constructor
  intro pins s σ H R I h
  refine Call_ (ld_blt I hg hm boot_enumerate (PyProof.Rows.callWith_type1 (thn (ha.run pos pins s σ H _ I h) ?_) hs rfl))
  rintro us s1 ⟨vs, H1, I1, r1, a, xs, rfl, hq, q⟩
  obtain ⟨u, rfl, ru⟩ := vals1 r1; skip
  cases ru
  obtain ⟨its, rv, pt, hz⟩ := I1.tuple hq; skip
  refine enum_new (begins_tuple a its.toArray) pt fun g he hi hk => wpAny_pyIter_enum he ?_
  have la : a < s1.heap.objs.size := by
    obtain ⟨o, ho, _⟩ := pt
    exact Heap.lt_size ho
  refine ⟨s1.heap.objs.size + 1, [s1.heap.objs.size + 1, s1.heap.objs.size], _, _, H1, rfl, I1.kept (t' := s1.toks) hk, turn_enumT a (s1.heap.objs.size + 1) s1.heap.objs.size, ⟨⟨.none, he⟩, ⟨_, hi, rfl, rfl⟩, Nat.succ_ne_self _, Nat.ne_of_lt la, Nat.ne_of_lt (Nat.lt_succ_of_lt la)⟩, fun b hb => ?_, q⟩
  have le : s1.heap.objs.size ≤ b := by
    rcases List.mem_cons.mp hb with rfl | hb; skip
    · exact Nat.le_succ _
    · rw [List.mem_singleton.mp hb]; skip
      exact Nat.le_refl _
  exact I1.fpOk le (I1.hok.fresh le)
theorem walk_enumT {K : PySem.W.Frag} {a : Addr} {xs : List V} : Walk (Iet K a) xs.length (fun H => SqT K H a xs) (YPair (fun i => some (.int (i : Nat))) (fun i => xs[i]?)) := by
  refine ⟨fun i _ hi q => ⟨xs, xs[i], q, by simp [hi]⟩, fun _ q => ⟨xs, q, rfl⟩, ?_⟩
  rintro i H v H' _ q ⟨T, x, h1, h2, h3, h4⟩
  exact ⟨T, .int (i : Nat), x, h1, h2, h3, rfl, h4 xs q⟩; skip
end Pl

namespace Pl
open PySem PySem.Spec PyProof.Rows L2 PySem.W
/-! ### set(a list of tuples of ints), of which few are unlike -/
theorem few_of {α : Type} [BEq α] [LawfulBEq α] : ∀ {l D : List α}, l.Nodup → (∀ x ∈ l, x ∈ D) → l.length ≤ D.length
  | [], _, _, _ => Nat.zero_le _
  | x :: l, D, hn, hs => by
    have q := List.nodup_cons.mp hn
    have ih := few_of (l := l) (D := D.erase x) q.2 fun y hy => (List.mem_erase_of_ne fun (e : y = x) => q.1 (e ▸ hy)).2 (hs y (List.mem_cons_of_mem _ hy))
    have hx : x ∈ D := hs x List.mem_cons_self; skip
    have e := List.length_erase_of_mem hx; skip
    have hp : 0 < D.length := List.length_pos_of_mem hx; skip
    rw [List.length_cons]
    omega
abbrev AT := Addr × List Int
section
variable {P : Program} {w : World} {I : Addr} {fp wr : List Addr} {G : Array GenState → Array GenState → Prop} {n : Nat} {V0 : Nat → Value → Prop} {St : Nat → Shared → Prop}
/-- some set stands that has got the first i -/
def HasT (P : Program) (w : World) (S : Addr) (ks : List AT) (i : Nat) (h : Heap) : Prop := ∃ L es ep t, SetTR P w h S L es ep t ∧ Got ks i L
theorem HasT.few {S : Addr} {ks pool : List AT} {i : Nat} {h : Heap} {L : List AT} {es : Array (Int × Value)} {ep : Nat} {t : SetTable} (R : SetTR P w h S L es ep t) (g : Got ks i L) {D : List (List Int)} (hD : ∀ p ∈ ks, p.2 ∈ D) : L.length ≤ D.length := by
  have e : (L.map (·.2)).length = L.length := List.length_map _
  rw [← e]
  refine few_of R.nd fun x hx => ?_
  obtain ⟨p, hp, rfl⟩ := List.mem_map.mp hx
  exact hD p (List.mem_of_mem_take (g.sub p hp))
theorem fill_tups (S : Addr) (ks : List AT) (D : List (List Int)) (hD : ∀ p ∈ ks, p.2 ∈ D) (h63 : D.length < 63) (hn : ks.length = n) (hV : ∀ i v, V0 i v → ∃ p, ks[i]? = some p ∧ v = .ref p.1) (h0 : Heap) (hk : ∀ p ∈ ks, IsT P w h0 p.2 p.1) (hS0 : h0.get? S = none) :
    ∀ (j i : Nat) (A : Around) (R : Result → Shared → Prop) (s : Shared) (W : WalksS P w A.in1 I fp wr G n V0 St), (∀ b ∈ wr, h0.get? b = none) → A.in1.units < cLine → S ∉ fp → n - i = j → i ≤ n → St i s → (∀ b o, h0.get? b = some o → s.heap.get? b = some o) → HasT P w S ks i s.heap →
      (∀ s', Moved (S :: wr) G s s' → HasT P w S ks n s'.heap → (∀ b o, h0.get? b = some o → s'.heap.get? b = some o) → R (.ok (.ret .none)) s') →
      (codeAny (model P w) A (.builtin "set.update.loop" ⟨[.ref S, .ref I], []⟩) R s) := by
  intro j
  induction j with
  | zero =>
    intro i A R s W hw hu hS hj hi st kp so hR
    obtain rfl : i = n := by omega
    have nw : S ∉ wr := fun h => hS (W.sub _ h)
    refine codeAny_builtin F.entry_set_update_loop ?_; skip
    rw [Around.under_plainId F.plain_set_update_loop _]; skip
    show wpAny _ A.in1 (pyNext (.ref I) >>= _) _ _ s; skip
    refine wpAny_bind (W.done s _ _ st fun s' mv => wpAny_pure ?_)
    have kp' : ∀ b o, h0.get? b = some o → s'.heap.get? b = some o := fun b o e => mv.heap b o (fun hb => by rw [hw b hb] at e; cases e) (kp b o e)
    obtain ⟨L, es, ep, t, T, g⟩ := so
    exact hR s' (mv.mono fun b hb => List.mem_cons_of_mem _ hb) ⟨L, es, ep, t, T.keep (fun o e => mv.heap S o nw e) fun p hp => isT_keep (hk p (List.mem_of_mem_take (g.sub p hp))) kp', g⟩ kp'
  | succ j ih =>
    intro i A R s W hw hu hS hj hi st kp so hR
    have nw : S ∉ wr := fun h => hS (W.sub _ h)
    have lt : i < n := by omega
    refine codeAny_builtin F.entry_set_update_loop ?_; skip
    rw [Around.under_plainId F.plain_set_update_loop _]; skip
    show wpAny _ A.in1 (pyNext (.ref I) >>= _) _ _ s; skip
    refine wpAny_bind (W.item i s _ _ lt st fun v s' pv st' mv => ?_)
    obtain ⟨k, ek, rfl⟩ := hV i v pv
    have kp' : ∀ b o, h0.get? b = some o → s'.heap.get? b = some o := fun b o e => mv.heap b o (fun hb => by rw [hw b hb] at e; cases e) (kp b o e)
    obtain ⟨L, es, ep, t, T0, g⟩ := so
    have T := T0.keep (fun o e => mv.heap S o nw e) fun p hp => isT_keep (hk p (List.mem_of_mem_take (g.sub p hp))) kp'
    have hx := isT_keep (hk k (List.mem_of_getElem? ek)) kp'
    have fw := HasT.few (pool := ks) T g hD
    show wpAny _ A.in1 (holding [Value.ref k.1] (setAdd S (.ref k.1)) >>= _) _ _ s'
    refine wpAny_bind (wpAny_holding ?_); skip
    unfold setAdd
    refine wpAny_holding (wpAny_bind (wpAny_pyHash_tuple hu hx ?_))
    refine add_at (s := { s' with toks := s'.toks + (k.2.length + 1) }) T hx hu (by omega) fun b h' L' es' ep' t' sb T2 c1 c2 => ?_
    have g' : Got ks (i + 1) L' := by
      by_cases c : k.2 ∈ L.map (·.2)
      · rw [c1 c]
        exact g.same ek c
      · exact g.more ek (c2 c)
    have kp2 : ∀ b o, h0.get? b = some o → h'.get? b = some o := fun b o e => by
      rw [sb.2 b (fun z => by rw [z, hS0] at e; cases e)]
      exact kp' b o e
    refine wpAny_pure ⟨plainId_quiet F.plain_set_update_loop _, ih (i + 1) A R _ W hw hu hS (by omega) lt (W.frame _ s' _ _ st' (Nat.le_add_right _ _) fun b hb o e => ?_) kp2 ⟨L', es', ep', t', T2, g'⟩ fun s2 mv2 so4 kp4 => ?_⟩
    · rw [sb.2 b (fun q => hS (by rw [← q]; exact hb))]
      exact e
    · refine hR s2 (Moved.trans W.gtrans ((mv.mono fun b hb => List.mem_cons_of_mem _ hb).then_heap (Nat.le_add_right _ _) fun b o hb e => ?_) mv2) so4 kp4
      rw [sb.2 b (fun q => hb (by rw [q]; exact List.mem_cons_self))]
      exact e
end
section
variable {P : Program} {w : World} {s : Shared} {E : Value → Shared → Prop} {A : Around}
theorem set_many {l : Addr} {items : Array Value} {ks : List AT} {Q : Value → Shared → Prop} (D : List (List Int)) (hD : ∀ p ∈ ks, p.2 ∈ D) (h63 : D.length < 63) (hh : A.handled = none) (hl : s.heap.IsList l items) (hit : items.toList = ks.map fun p => Value.ref p.1) (hk : ∀ p ∈ ks, IsT P w s.heap p.2 p.1) (hu : A.units + 3 < cLine)
    (q : ∀ (g : Heap) (tk : Nat), HasT P w s.heap.objs.size ks ks.length g → (∀ b o, s.heap.get? b = some o → g.get? b = some o) → Q (.ref s.heap.objs.size) { s with heap := g, toks := tk }) :
    (wpAny (model P w) A (call (.type "set") [.ref l]) Q E s) := by
  have hsz : ks.length = items.size := by
    have e := congrArg List.length hit
    rw [List.length_map, Array.length_toList] at e
    exact e.symm
  obtain ⟨c, tl, hmro⟩ := PySem.F.called_set.mro; skip
  have a1 := PySem.F.called_set.made
  have a2 := PySem.F.called_set.sub
  have a3 := PySem.F.called_set.notType
  have a4 := PySem.F.called_set.canCreate
  have a5 := PySem.F.typeCall_set_1 (.ref l)
  refine wpAny_call (codeAny_of_tree ?_); skip
  show wpAny _ _ (callAny (.type "set") _) _ _ _; skip
  refine wpAny_pure ⟨Code.quiet_builtin _ (by decide +kernel), codeAny_builtin PySem.F.entry_type_call ?_⟩; skip
  rw [Around.under_plain (weight_type_call_type "set" [.ref l] []) rfl]; skip
  repeat (any_goals (first | assumption | wp_step)); skip
  refine codeAny_mono (code_set_led1 (.ref l) (E := E) (Q₁ := fun ob t => ob = .ref s.heap.objs.size ∧ t = { s with heap := s.heap.push { cls := .type "set", dict := none, data := .set #[] 0 (.fresh 0 0 (!w.params.followText "set-order")) } }) ⟨rfl, rfl⟩) fun r t hr => ?_
  match r, hr with
  | .error e, hr => exact hr
  | .ok (.ret ob), ⟨e1, e2⟩ =>
    subst e1
    subst e2
    generalize hld : (!w.params.followText "set-order") = led
    have new : (s.heap.push { cls := .type "set", dict := none, data := .set #[] 0 (.fresh 0 0 led) }).get? s.heap.objs.size = some { cls := .type "set", dict := none, data := .set #[] 0 (.fresh 0 0 led) } := Heap.get?_push_size _ rfl
    have ty : Shared.TypeIs { s with heap := s.heap.push { cls := .type "set", dict := none, data := .set #[] 0 (.fresh 0 0 led) } } (.ref s.heap.objs.size) "set" := ⟨_, new, rfl⟩
    have b1 := PySem.F.called_set.init.lookup
    have b2 := PySem.F.called_set.init.bind (.ref s.heap.objs.size)
    repeat (any_goals (first | assumption | wp_step)); skip
    refine codeAny_mono (codeAny_call_builtin (R := wants (fun r t => r = .none ∧ ∃ g tk, t = { s with heap := g, toks := tk } ∧ HasT P w s.heap.objs.size ks ks.length g ∧
      (∀ b o, s.heap.get? b = some o → g.get? b = some o)) E) PySem.F.called_set.init.plain PySem.F.entry_set_init (check_set_init_1 ty ?_)) fun r2 t2 hr2 => ?_
    · obtain ⟨o, ho, hc, k, hd⟩ := hl
      obtain ⟨oc, od, odt, osl⟩ := o; skip
      simp only at hc hd
      subst hc
      subst hd
      have ho' : (s.heap.push { cls := .type "set", dict := none, data := .set #[] 0 (.fresh 0 0 led) }).get? l = some { cls := .type "list", dict := od, data := .seq items k, slots := osl } := Heap.get?_push_of_some _ ho
      have c1 := PySem.F.sub_list_set
      have c2 := PySem.F.sub_list_frozenset
      have c3 : (Value.type "list" == Value.type "dict") = false := by decide
      have il : (s.heap.push { cls := .type "set", dict := none, data := .set #[] 0 (.fresh 0 0 led) }).IsList l items := ⟨_, ho', rfl, k, rfl⟩
      unfold Builtin.«set.__init__» noKeywords Builtin.Frozenset.updateFrom; skip
      generalize hPI : pyIter = PI
      wp_walk
      subst hPI
      refine wpAny_pyIter_list il (wpAny_bind (wpAny_runValue ?_))
      have lt : l < s.heap.objs.size := Heap.lt_size ho
      have nI : l ≠ (s.heap.push { cls := .type "set", dict := none, data := .set #[] 0 (.fresh 0 0 led) }).objs.size := by
        rw [Heap.size_push]
        exact Nat.ne_of_lt (Nat.lt_succ_of_lt lt)
      have nS : s.heap.objs.size ∉ [(s.heap.push { cls := .type "set", dict := none, data := .set #[] 0 (.fresh 0 0 led) }).objs.size, l] := by
        rw [Heap.size_push, List.mem_cons, List.mem_singleton]
        rintro (z | z)
        · exact absurd z (Nat.ne_of_lt (Nat.lt_succ_self _))
        · exact absurd z (Nat.ne_of_gt lt)
      have none_of : ∀ b, s.heap.objs.size ≤ b → s.heap.get? b = none := fun b hb => Heap.get?_none_of_le hb
      refine fill_tups (n := items.size) s.heap.objs.size ks D hD h63 hsz (fun i v hv => ?_) s.heap hk (none_of _ (Nat.le_refl _)) (items.size - 0) 0 _ _ _ ((Walks.list (by simpa using hh) _ l nI items).toS) (fun b hb => none_of b (by
          rw [List.mem_singleton.mp hb, Heap.size_push]; skip
          exact Nat.le_succ _)) hu nS (by omega) (Nat.zero_le _) ⟨⟨_, Heap.get?_push_size _ rfl, rfl, rfl⟩, il.push _⟩ (fun b o e => Heap.get?_push_of_some _ (Heap.get?_push_of_some _ e)) ?_ fun t mv so kp => ?_
      · have hv' : items.toList[i]? = some v := by
          rw [Array.getElem?_toList]
          exact hv
        rw [hit, List.getElem?_map] at hv'
        cases e : ks[i]? with
        | none =>
          rw [e] at hv'
          cases hv'
        | some p =>
          rw [e] at hv'
          exact ⟨p, rfl, (Option.some.inj hv').symm⟩
      · have g0 : ((s.heap.push { cls := .type "set", dict := none, data := .set #[] 0 (.fresh 0 0 led) }).push { cls := .type "list_iterator", data := .fields #[.ref l, .int 0 0] }).get? s.heap.objs.size = some { cls := .type "set", dict := none, data := .set #[] 0 (.fresh 0 0 led) } := Heap.get?_push_of_some _ new
        rw [← hld] at g0
        have := setTR_fresh (P := P) g0
        rw [hld] at this
        exact ⟨[], #[], 0, _, this, Got.zero ks⟩
      · obtain ⟨g, gs, d, tk, os⟩ := t
        obtain rfl : gs = s.gens := mv.gens
        obtain rfl : d = s.drawn := mv.drawn
        obtain rfl : os = s.os := mv.os
        show wpAny _ _ _ _ _ _
        refine wpAny_pure ?_
        show wpAny _ _ (ret Value.none) _ _ _; skip
        rw [← hsz] at so
        exact wpAny_pure ⟨rfl, g, tk, rfl, so, kp⟩
    · match r2, hr2 with
      | .error e, hr2 => exact hr2
      | .ok (.ret v), ⟨e1, g, tk, e2, so, kp⟩ =>
        subst e1
        subst e2
        repeat (any_goals (first | assumption | wp_step)); skip
        exact q _ _ so kp
end
end Pl

namespace Pl
open PySem PySem.Spec PyProof.Rows L2 PySem.W PySem.SeqAt
/-! ### the sort of tuples, of which some may be empty -/
section
variable {prog : Program} {w : World} {s : Shared} {E : Value → Shared → Prop} {A : Around}
theorem call_tup_lt {Q : Value → Shared → Prop} {l b : Addr} {items items2 : Array Value} {e r : Nat → Bool} (hl : s.heap.IsTuple l items) (hb : s.heap.IsTuple b items2)
    (he : ∀ j (h1 : j < items.size) (h2 : j < items2.size), EqAt A.in1 s items[j] items2[j] (e j)) (hr : ∀ j (h1 : j < items.size) (h2 : j < items2.size), e j = false → RcLt A.in1 s items[j] items2[j] (r j))
    (q : Q (.bool (firstLt e r (decide (items.size < items2.size)) (List.range (min items.size items2.size)))) s) : (wpAny (model prog w) A (call (.builtin "tuple.__lt__") [.ref l, .ref b]) Q E s) := by
  obtain ⟨⟨c1, d1, x1, y1⟩, o1, hc1, n1, hd1⟩ := id hl
  obtain ⟨⟨c2, d2, x2, y2⟩, o2, hc2, n2, hd2⟩ := id hb
  simp only at hc1 hd1 hc2 hd2
  subst hc1 hd1 hc2 hd2
  exact call_meets F.slot_tuple_lt ⟨_, o1, rfl⟩ F.entry_tuple_lt (F.args_tuple_lt_2 _ _) (tuple_ltAt l b items items2 n1 n2 d1 d2 y1 y2 e r) ⟨o1, o2, he, hr, q⟩
theorem one_tup {xs ys : List PyData} {a b : Value} {as bs : List Addr} {Q : Bool → Shared → Prop} (ra : Reads s.heap a (.tuple xs) as) (rb : Reads s.heap b (.tuple ys) bs) (hal : alikeAll xs ys = true)
    (hu : A.units + min (PyData.tuple xs).depth (PyData.tuple ys).depth < cLine) (hq : Q (dataLt (.tuple xs) (.tuple ys)) s) : wpAny (model prog w) A (oneLt' true a b) Q E s := by
  cases ra with
  | @tuple l o vs n _ as₁ h1 h2 h3 h4 =>
    cases rb with
    | @tuple l' o' vs' n' _ bs₁ k1 k2 k3 k4 =>
      have e1 : vs.size = xs.length := by simpa using ReadsAll.length _ _ _ h4
      have e2 : vs'.size = ys.length := by simpa using ReadsAll.length _ _ _ k4
      rw [dataLt_tuple, ← firstLt_toks xs ys hal, ← e1, ← e2] at hq
      rw [oneLt'_eq]
      simp only [if_true]
      refine wpAny_bind (wpAny_cRoomFor (room_here hu) ?_); skip
      refine wpAny_bind (wpAny_callSpecialIfBound?_slot (T := "tuple") ⟨_, h1, h2⟩ F.slot_tuple_lt (call_tup_lt (e := pairEq xs ys) (r := fun j => dataLt (xs.getD j .none) (ys.getD j .none)) ⟨_, h1, h2, _, h3⟩ ⟨_, k1, k2, _, k3⟩ (fun j j1 j2 => ?_) (fun j j1 j2 hj => ?_) ?_))
      · have z := eqAt_alikeAll xs ys A.in1 s vs.toList vs'.toList _ _ h4 k4 hal (room_in hu) j (by simpa using j1) (by simpa using j2)
        simpa using z
      · have z := rcLt_alikeAll xs ys A.in1 s vs.toList vs'.toList _ _ h4 k4 hal (room_in hu) j (by simpa using j1) (by simpa using j2) hj
        simpa using z
      · exact wpAny_truthy_bool hq
/-- an item at least -/
def neT : PyData → Bool
  | .tuple (_ :: _) => true
  | _ => false
theorem firsts_of {M : Model} : ∀ {vs : List Value} {ds : List PyData}, EachIs (fun v d => ∃ as, Reads s.heap v d as) vs ds → (∀ d, d ∈ ds → ∃ xs, d = .tuple xs) →
    ∃ fs : List (Option Value), (∀ (E : Value → Shared → Prop) (Q : List (Option Value) → Shared → Prop), Q fs s → wpAny M A (vs.mapM firstOfTuple') Q E s) ∧ fs.map (·.isSome) = ds.map neT
  | _, _, .nil, _ => ⟨[], fun E Q h => by rw [List.mapM_nil]; exact wpAny_pure h, rfl⟩
  | _, _, .cons (b := d) ⟨as, r⟩ t, ht => by
    obtain ⟨fs, h1, h2⟩ := firsts_of (M := M) t fun d hd => ht d (List.mem_cons_of_mem _ hd)
    obtain ⟨xs, rfl⟩ := ht d (List.mem_cons_self ..)
    cases r with
    | @tuple a o us n _ _ ho hc hd hr =>
      refine ⟨us[0]? :: fs, fun E Q h => ?_, ?_⟩
      · rw [List.mapM_cons]
        refine wpAny_bind ?_
        rw [kas_first_eq]
        refine wpAny_bind (Looks.here (show Looks M s.heap (typeOf (.ref a)) o.cls from (Looks.ld ho).andThen .now) ?_); skip
        rw [hc, if_neg (by first | decide | simp)]; skip
        refine wpAny_bind (listItems_at ho hd (wpAny_pure ?_)); skip
        exact wpAny_bind (h1 E (fun bs s' => wpAny M A (pure (us[0]? :: bs)) Q E s') (wpAny_pure h))
      · rw [List.map_cons, List.map_cons, h2]
        have e : (us[0]?).isSome = neT (.tuple xs) := by
          rw [← Array.getElem?_toList]
          cases q : us.toList with
          | nil =>
            rw [q] at hr
            cases hr
            rfl
          | cons f fr =>
            rw [q] at hr
            cases hr
            rfl
        rw [e]
theorem kind_of {M : Model} {vs : List Value} {ds : List PyData} (e : EachIs (fun v d => ∃ as, Reads s.heap v d as) vs ds) (ht : ∀ d, d ∈ ds → ∃ xs, d = .tuple xs) (hm : ¬ ∀ d, d ∈ ds → neT d = true) :
    ∃ kd, (kd = general' ∨ kd = oneType') ∧ ∀ (E : Value → Shared → Prop) (Q : SortKind → Shared → Prop), Q kd s → wpAny M A (keyKind' vs.toArray) Q E s := by
  obtain ⟨fs, h1, h2⟩ := firsts_of (A := A) (M := M) e ht
  have nall : (fs.toArray.all fun x => x.isSome) ≠ true := fun z => hm fun d hd => by
    have z2 : ∀ x ∈ fs, x.isSome = true := by simpa using z
    obtain ⟨i, hi⟩ := List.getElem?_of_mem hd
    have h3 : (fs.map (·.isSome))[i]? = some (neT d) := by rw [h2, List.getElem?_map, hi]; rfl
    rw [List.getElem?_map] at h3
    cases q : fs[i]? with
    | none => rw [q] at h3; cases h3
    | some x =>
      rw [q] at h3
      rw [← Option.some.inj h3]
      exact z2 x (List.mem_of_getElem? q)
  by_cases hf : (fs.toArray[0]?.bind id).isSome = true
  · refine ⟨general', .inl rfl, fun E Q q => ?_⟩
    rw [keyKind'_eq, List.mapM_toArray, map_eq_pure_bind]; skip
    refine wpAny_bind (wpAny_bind (h1 E _ (wpAny_pure ?_)))
    rw [if_neg nall, if_pos hf]
    exact wpAny_pure q
  · refine ⟨oneType', .inr rfl, fun E Q q => ?_⟩
    rw [keyKind'_eq, List.mapM_toArray, map_eq_pure_bind]; skip
    refine wpAny_bind (wpAny_bind (h1 E _ (wpAny_pure ?_)))
    rw [if_neg nall, if_neg hf]
    rw [oneTypeOnly'_eq, List.mapM_toArray, map_eq_pure_bind]; skip
    refine wpAny_bind (wpAny_bind (wpAny_bind (kas_mapM (r := Value.type "tuple") _ (fun v hv Q' hq => ?_) (wpAny_pure ?_))))
    · obtain ⟨d, hd, as, r⟩ := e.left v hv; skip
      obtain ⟨xs, rfl⟩ := ht d hd
      exact (looks_reads (M := M) r).here hq
    · have hne : vs ≠ [] := fun z => by
        subst z
        cases e
        exact hm fun d hd => by cases hd
      obtain ⟨v, vr, rfl⟩ := List.exists_cons_of_ne_nil hne
      have hall : ((List.map (fun _ => Value.type "tuple") (v :: vr)).toArray.all fun x => x == Value.type "tuple") = true := by
        simp only [List.all_toArray, List.all_map, List.all_eq_true]; skip
        intro _ _
        exact beq_self_eq_true _
      have h0 : (List.map (fun _ => Value.type "tuple") (v :: vr)).toArray[0]? = some (.type "tuple") := by simp
      rw [h0]
      simp only [hall, if_true]
      exact wpAny_pure (wpAny_pure q)
theorem sorts_tups {vs : List Value} {ds : List PyData} (e : EachIs (fun v d => ∃ as, Reads s.heap v d as) vs ds) (hal : AllAlike ds) (ht : ∀ d, d ∈ ds → ∃ xs, d = .tuple xs) (hu : ∀ d, d ∈ ds → A.units + d.depth < cLine) : SortsAt prog w A s (dataKind s.heap ds) vs := by
  by_cases hm : ∀ d, d ∈ ds → neT d = true
  · refine SortsAt.data e hal (.inl fun d hd => ?_) hu
    obtain ⟨xs, rfl⟩ := ht d hd
    cases xs with
    | nil => cases hm _ hd
    | cons x r => exact ⟨x, r, rfl⟩
  · obtain ⟨kd, hk, hkk⟩ := kind_of (A := A) (M := model prog w) e ht hm
    refine ⟨fun v hv => ?_, kd, ?_, fun _ E Q q => hkk E Q q⟩
    · obtain ⟨d, hd, as, r⟩ := e.left v hv; skip
      exact ⟨_, dataKind_some hal hd r⟩; skip
    · intro E x y a b Q ha hb hq
      obtain ⟨d, as, hd, ra, rfl⟩ := dataKind_inv ha; skip
      obtain ⟨d', as', hd', rb, rfl⟩ := dataKind_inv hb; skip
      have hroom : A.units + min d.depth d'.depth < cLine := Nat.lt_of_le_of_lt (Nat.add_le_add_left (Nat.min_le_left _ _) _) (hu d hd)
      have hdd := hal d hd d' hd'
      obtain ⟨xs, rfl⟩ := ht d hd
      obtain ⟨ys, rfl⟩ := ht d' hd'
      rcases hk with rfl | rfl
      · exact oneLt_alike (f := false) (fun z => by cases z) ra rb hdd (by simp) hroom hq
      · rw [keyLt'_oneType]
        exact one_tup ra rb (by simpa [alike] using hdd) hroom hq
end
/-! ### tuples of ints -/
def encT (p : AT) : PyData := .tuple (p.2.map .int)
def keyT (p : AT) : PyData := .tuple [.int p.2.length, encT p]
theorem dep_ints : ∀ ns : List Int, PyData.depthAll (ns.map .int) = 0
  | [] => by simp [PyData.depthAll]
  | n :: ns => by simp [PyData.depthAll, PyData.depth, dep_ints ns]
theorem dep_T (p : AT) : (encT p).depth ≤ 1 := by
  unfold encT
  rw [PyData.depth, dep_ints]
  omega
theorem dep_K (p : AT) : (keyT p).depth ≤ 2 := by
  have := dep_T p
  simp only [keyT, PyData.depth, PyData.depthAll]
  omega
theorem alike_T (bs : List AT) : AllAlike (bs.map encT) := AllAlike.of fun a b => by simp [encT, alike, alike_ints]
theorem alike_K (bs : List AT) : AllAlike (bs.map keyT) := AllAlike.of fun a b => by simp [keyT, encT, alike, alikeAll, alike_ints]
section
variable {P : Program} {w : World}
theorem reads_items {h : Heap} : ∀ {k : List Int} {vs : List Value}, ItemsAre (intKind P w) k vs → ReadsAll h vs (k.map .int) []
  | _, _, .nil => .nil
  | _, _, .cons h1 t => by
    obtain ⟨tk, rfl⟩ := Value.isInt_shape h1
    exact .cons (as := []) (bs := []) (.int _ tk) (reads_items t)
theorem reads_T {h : Heap} {k : List Int} {a : Addr} (x : IsT P w h k a) : Reads h (.ref a) (.tuple (k.map .int)) [] := by
  obtain ⟨o, items, n, ho, hc, hd, hi⟩ := x; skip
  exact .tuple ho hc hd (reads_items hi)
end
end Pl

namespace Pl
open PySem PySem.Spec PyProof.Rows L2 PySem.W PySem.SeqAt
theorem each_refs {S : Value → AT → Prop} (h : ∀ p : AT, S (.ref p.1) p) : ∀ L : List AT, EachIs S (L.map fun p => Value.ref p.1) L
  | [] => .nil
  | p :: L => .cons (h p) (each_refs h L)
theorem each_refs' {S : Value → AT → Prop} : ∀ L : List AT, (∀ p ∈ L, S (.ref p.1) p) → EachIs S (L.map fun p => Value.ref p.1) L
  | [], _ => .nil
  | p :: L, h => .cons (h p List.mem_cons_self) (each_refs' L fun q hq => h q (List.mem_cons_of_mem _ hq))
theorem refs_each : ∀ {vs : List Value} {L : List AT}, EachIs (fun v (p : AT) => v = Value.ref p.1) vs L → vs = L.map fun p => Value.ref p.1
  | _, _, .nil => rfl
  | _, _, .cons h t => by rw [h, refs_each t, List.map_cons]
section
variable {prog : Program} {w : World} {s : Shared} {E : Value → Shared → Prop} {A : Around}
/-- sorted(a list of tuples of ints) -/
theorem sorted_list {l : Addr} {L : List AT} {Q : Value → Shared → Prop} (hl : s.heap.IsList l (L.map fun p => Value.ref p.1).toArray) (hk : ∀ p ∈ L, IsT prog w s.heap p.2 p.1) (hL : L.length ≤ sizeLine) (hu : A.units + 4 < cLine)
    (q : ∀ out, out = (L.mergeSort (dataLe false encT)).map (fun p => Value.ref p.1) → Q (.ref (s.heap.objs.size + 1)) { s with heap := sortedAll s.heap (L.map fun p => Value.ref p.1) (List.toArray out) }) : (wpAny (model prog w) A (call (.builtin "sorted") [.ref l]) Q E s) := by
  have er : EachIs (fun v b => ∃ as, Reads (sortingHeap (copyHeap s.heap (L.map fun p => Value.ref p.1)) (s.heap.objs.size + 1) (L.map fun p => Value.ref p.1)) v (encT b) as) (L.map fun p => Value.ref p.1) L :=
    each_refs' L fun p hp => ⟨[], PyProof.Rows.Reads.keeps (fun _ _ => sorting_copy_old) (reads_T (hk p hp))⟩
  have bd : ∀ d, d ∈ L.map encT → A.in1.in1.units + d.depth < cLine := fun d hd => by
    obtain ⟨p, _, rfl⟩ := List.mem_map.mp hd
    have := dep_T p
    show A.units + 2 + _ < cLine
    omega
  refine sorted_vals hl (sorts_tups (s := { s with heap := sortingHeap (copyHeap s.heap (L.map fun p => Value.ref p.1)) (s.heap.objs.size + 1) (L.map fun p => Value.ref p.1) }) (each_map (R := fun v d => ∃ as, Reads (sortingHeap (copyHeap s.heap (L.map fun p => Value.ref p.1)) (s.heap.objs.size + 1) (L.map fun p => Value.ref p.1)) v d as) encT er) (alike_T L) (fun d hd => ?_) bd) (by rw [List.length_map]; exact hL) (q _ (refs_each (sortVals_data false (R := fun v (p : AT) => v = Value.ref p.1) (each_refs (fun _ => rfl) L) er (alike_T L))))
  obtain ⟨p, _, rfl⟩ := List.mem_map.mp hd
  exact ⟨_, rfl⟩
/-- list.sort of such -/
theorem lsort_list {a : Addr} {n : Nat} {L : List AT} {Q : Value → Shared → Prop} (ho : s.heap.get? a = some (seqObj "list" (L.map fun p => Value.ref p.1).toArray n)) (hk : ∀ p ∈ L, p.1 ≠ a ∧ IsT prog w s.heap p.2 p.1) (hL : L.length ≤ sizeLine) (hu : A.units + 4 < cLine)
    (q : ∀ out, out = (L.mergeSort (dataLe false encT)).map (fun p => Value.ref p.1) → Q .none { s with heap := sortedHeap s.heap a (L.map fun p => Value.ref p.1) (List.toArray out) }) : (wpAny (model prog w) A (call (.builtin "list.sort") [.ref a]) Q E s) := by
  have er : EachIs (fun v b => ∃ as, Reads (sortingHeap s.heap a (L.map fun p => Value.ref p.1)) v (encT b) as) (L.map fun p => Value.ref p.1) L :=
    each_refs' L fun p hp => ⟨[], by
      obtain ⟨o, items, k, h1, h2⟩ := (hk p hp).2
      exact reads_T (P := prog) (w := w) ⟨o, items, k, sortingHeap_old (hk p hp).1 h1, h2⟩⟩
  have bd : ∀ d, d ∈ L.map encT → A.in1.units + d.depth < cLine := fun d hd => by
    obtain ⟨p, _, rfl⟩ := List.mem_map.mp hd
    have := dep_T p
    show A.units + 1 + _ < cLine
    omega
  refine wpAny_call_entry slot_list_sort ⟨_, ho, rfl⟩ entry_list_sort (list_sort_vals ho (sorts_tups (s := { s with heap := sortingHeap s.heap a (L.map fun p => Value.ref p.1) }) (each_map (R := fun v d => ∃ as, Reads (sortingHeap s.heap a (L.map fun p => Value.ref p.1)) v d as) encT er) (alike_T L) (fun d hd => ?_) bd) (by rw [List.length_map]; exact hL) ⟨.none, rfl, ?_⟩) (args_list_sort _)
  · obtain ⟨p, _, rfl⟩ := List.mem_map.mp hd
    exact ⟨_, rfl⟩
  · exact q _ (refs_each (sortVals_data false (R := fun v (p : AT) => v = Value.ref p.1) (each_refs (fun _ => rfl) L) er (alike_T L)))
/-- sorted(a set of these) -/
theorem sorted_set {a : Addr} {L : List AT} {es : Array (Int × Value)} {ep : Nat} {t : SetTable} {Q : Value → Shared → Prop} (R : SetTR prog w s.heap a L es ep t) (hh : A.handled = none) (hu : A.units + 5 < cLine)
    (q : ∀ s' p (out : Array Value) (c : Nat) (L' : List AT), (∀ b o, s.heap.get? b = some o → s'.heap.get? b = some o) → s'.gens = s.gens → s'.os = s.os → s.heap.objs.size ≤ p → s'.heap.get? p = some (seqObj "list" out c) → out.toList = L'.map (fun q => Value.ref q.1) → L'.Perm L → Q (.ref p) s') :
    (wpAny (model prog w) A (call (.builtin "sorted") [.ref a]) Q E s) := by
  obtain ⟨o, ho, hex, hd⟩ := R.ob; skip
  have hfew := R.few
  refine Calls.call_function_entry kind_sorted plain_sorted entry_sorted (args_sorted1 _) ?_; skip
  unfold Builtin.«sorted»
  refine wpAny_bind (m := checkCount "sorted" 1 1 _) (wpAny_pure ?_); skip
  refine wpAny_bind (collect_set (A := A.in1) hh ⟨o, ho, hex.1, hd⟩ R.fits (by have := R.size; unfold scanBound; omega) R.tab.ris R.led fun s1 vs k1 hz g1 o1 pm => ?_)
  have hes : es.toList.map (·.2) = L.map fun q => Value.ref q.1 := by
    rw [R.rows]
    unfold L2.rowsOf
    rw [List.map_map]
    rfl
  rw [hes] at pm
  obtain ⟨L1, e1, p1⟩ : ∃ L1 : List AT, vs = L1.map (fun q => Value.ref q.1) ∧ L1.Perm L := by
    have key : ∀ (vs : List Value) (L : List AT), vs.Perm (L.map fun q => Value.ref q.1) → ∃ L1 : List AT, vs = L1.map (fun q => Value.ref q.1) ∧ L1.Perm L := fun vs => by
      induction vs with
      | nil =>
        intro L h
        have z := h.length_eq
        rw [List.length_map, List.length_nil] at z
        obtain rfl := List.eq_nil_of_length_eq_zero z.symm
        exact ⟨[], rfl, .refl _⟩
      | cons v vs ih =>
        intro L h
        obtain ⟨p, hp, rfl⟩ := List.mem_map.mp (h.mem_iff.mp List.mem_cons_self)
        obtain ⟨l1, l2, rfl⟩ := List.append_of_mem hp
        have h2 : ((l1 ++ p :: l2).map fun q : AT => Value.ref q.1).Perm (Value.ref p.1 :: (l1 ++ l2).map fun q => Value.ref q.1) := by
          rw [List.map_append, List.map_cons, List.map_append]
          exact List.perm_middle
        obtain ⟨L1, e, pm⟩ := ih (l1 ++ l2) ((h.trans h2).cons_inv)
        exact ⟨p :: L1, by rw [List.map_cons, e], (pm.cons p).trans List.perm_middle.symm⟩
    exact key vs L pm
  subst e1
  have hL1 : L1.length < 64 := by rw [p1.length_eq]; exact hfew
  refine wpAny_bind (wpAny_newList ?_ (by rw [sizeLine_eq, List.length_map]; omega))
  have hoL : (s1.heap.push (seqObj "list" (L1.map fun q => Value.ref q.1).toArray 0)).get? s1.heap.objs.size = some (seqObj "list" (L1.map fun q => Value.ref q.1).toArray 0) := Heap.get?_push_size _ rfl
  refine wpAny_bind (wpAny_holding (lsort_list (s := { s1 with heap := s1.heap.push (seqObj "list" (L1.map fun q => Value.ref q.1).toArray 0) }) hoL (fun p hp => ?_) (by rw [sizeLine_eq]; omega) (by show A.units + 1 + 4 < cLine; omega) fun out eo => ?_))
  · have ht := isT_keep (R.tup p (p1.mem_iff.mp hp)) k1
    have hlt : p.1 < s1.heap.objs.size := by
      obtain ⟨o, _, _, h, _⟩ := ht
      exact Heap.lt_size h
    exact ⟨Nat.ne_of_lt hlt, isT_keep ht fun b u e => Heap.get?_push_of_some _ e⟩
  · obtain ⟨c, hc⟩ := sortedHeap_at (vs := L1.map fun q => Value.ref q.1) (out := out.toArray) hoL
    refine wpAny_pure ⟨_, rfl, q _ s1.heap.objs.size out.toArray c (L1.mergeSort (dataLe false encT)) (fun b u e => ?_) g1 o1 hz hc (by simpa using eo) ((List.mergeSort_perm _ _).trans p1)⟩
    have z := k1 b u e
    have hlt := Heap.lt_size z
    show (sortedHeap (s1.heap.push (seqObj "list" (L1.map fun q => Value.ref q.1).toArray 0)) s1.heap.objs.size (L1.map fun q => Value.ref q.1) out.toArray).get? b = some u
    rw [sortedHeap_old (Nat.ne_of_lt hlt) (by rw [size_push']; exact Nat.lt_succ_of_lt hlt)]; skip
    exact Heap.get?_push_of_some _ z
end
section
variable {X : Cx}
def refs (L : List AT) : List V := L.map fun p => V.ref p.1
/-- set(a list of tuples), of few unlike ones -/
def rSetM (K : PySem.W.Frag) (P : Program) (w : World) : List V → Hp → VK → Prop := fun xs H Q => ∃ (l : Addr) (ks : List AT) (D : List (List Int)), xs = [V.ref l] ∧ SqL K H l (refs ks) ∧ (∀ p ∈ ks, SqT K H p.1 (p.2.map V.int)) ∧ (∀ p ∈ ks, p.2 ∈ D) ∧ D.length < 63 ∧
  ∀ a L, H a = none → (∀ p ∈ L, p ∈ ks) → (∀ p ∈ ks, p.2 ∈ L.map (·.2)) → L.length < 64 → Q (.ref a) (upd H a (SetTO P w a L))
theorem cr_setM (hc : X.calm = true) (hu : X.A.units + 64 < cLine) : CallR X (.type "set") (rSetM X.K X.prog X.w) := by
  intro pins s σ H xs us Q I r h; skip
  obtain ⟨l, ks, D, rfl, hl, hk, hD, h63, q⟩ := h
  rw [Vals.ref1 r]
  obtain ⟨its, rv, pl, hz⟩ := I.list hl; skip
  refine set_many (P := X.prog) (w := X.w) (ks := ks) D hD h63 (I.ok.hd hc) pl.isList (by simpa using refs_of_vals rv) (fun p hp => I.isT (hk p hp)) (by omega) fun g tk so kp => ?_
  obtain ⟨L, es, ep, t, R, gt⟩ := so
  exact ⟨.ref s.heap.objs.size, upd H s.heap.objs.size (SetTO X.prog X.w s.heap.objs.size L), I.laid (t' := tk) kp (Nat.le_refl _) (setTO_new R.t0), rfl, q _ L (I.hok.fresh (Nat.le_refl _)) (fun p hp => List.mem_of_mem_take (gt.sub p hp)) (fun p hp => gt.all p (by rw [List.take_length]; exact hp)) R.few⟩
def rSortM (K : PySem.W.Frag) (P : Program) (w : World) : List V → Hp → VK → Prop := fun vs H Q => ∃ (a : Addr) (L : List AT), vs = [V.ref a] ∧ H a = some (SetTO P w a L) ∧ (∀ p ∈ L, SqT K H p.1 (p.2.map V.int)) ∧ ∀ (L' : List AT) (p : Addr), L'.Perm L → H p = none → Q (.ref p) (upd H p (.lst (refs L')))
theorem cr_sortM (hc : X.calm = true) (hu : X.A.units + 64 < cLine) : CallR X (.builtin "sorted") (rSortM X.K X.prog X.w) := by
  intro pins s σ H vs us Q I r h; skip
  obtain ⟨a, L, rfl, ha, hk, q⟩ := h
  have R0 : SetT0 X.prog X.w s.heap a L := (I.hok a _ ha).1; skip
  obtain ⟨es, ep, t, R⟩ := R0.full fun p hp => I.isT (hk p hp); skip
  rw [Vals.ref1 r]
  refine sorted_set R (I.ok.hd hc) (by omega) fun s' p out c L' k g o hp hg hout pm => ?_
  have hlen : (refs L').length ≤ sizeLine := by
    have := R.few
    rw [← pm.length_eq] at this
    unfold refs
    rw [List.length_map, sizeLine_eq]; skip
    omega
  have hn : H p = none := I.hok.fresh hp; skip
  have hv : Vals (refs L') out.toList := by
    rw [hout]
    exact vals_of_refs L'
  obtain ⟨h2, g2, d2, t2, o2⟩ := s'
  obtain rfl : g2 = s.gens := g
  obtain rfl : o2 = s.os := o
  have J : Inv X pins σ (upd H p (.lst (refs L'))) { s with heap := h2, drawn := d2, toks := t2 } := I.call (ch := []) (Un.laid k hp hn) (I.hok.laid k hp ⟨hlen, out.toList, c, hv, hg⟩) I.bare fun _ z => nomatch z
  exact ⟨.ref p, _, J, rfl, q L' p pm hn⟩
/-- sorted(a list of tuples) -/
def rSortL (K : PySem.W.Frag) : List V → Hp → VK → Prop := fun vs H Q => ∃ (a : Addr) (L : List AT), vs = [V.ref a] ∧ SqL K H a (refs L) ∧ (∀ p ∈ L, SqT K H p.1 (p.2.map V.int)) ∧ ∀ (L' : List AT) (p : Addr), L'.Perm L → H p = none → Q (.ref p) (upd H p (.lst (refs L')))
theorem cr_sortL (hu : X.A.units + 64 < cLine) : CallR X (.builtin "sorted") (rSortL X.K) := by
  intro pins s σ H vs us Q I r h; skip
  obtain ⟨a, L, rfl, ha, hk, q⟩ := h
  rw [Vals.ref1 r]
  obtain ⟨its, rv, pl, hz⟩ := I.list ha
  have e := refs_of_vals rv
  subst e
  have hz' : L.length ≤ sizeLine := by
    have z := hz
    unfold refs at z
    rw [List.length_map] at z
    exact z
  refine sorted_list (prog := X.prog) (w := X.w) (L := L) pl.isList (fun p hp => I.isT (hk p hp)) hz' (by omega) fun out eo => ?_
  obtain ⟨ep, he⟩ := PyProof.Rows.sortedAll_at s.heap (L.map fun p => Value.ref p.1) (List.toArray out)
  have pm := List.mergeSort_perm L (dataLe false encT)
  have hlen : (refs (L.mergeSort (dataLe false encT))).length ≤ sizeLine := by
    unfold refs
    rw [List.length_map, pm.length_eq]
    exact hz'
  exact ⟨.ref _, upd H (s.heap.objs.size + 1) (.lst (refs (L.mergeSort (dataLe false encT)))), I.laid (t' := s.toks) (fun _ _ => PyProof.Rows.sortedAll_old) (Nat.le_succ _) ⟨hlen, out, ep, by rw [eo]; exact vals_of_refs _, he⟩, rfl, q _ _ pm (I.hok.fresh (Nat.le_succ _))⟩
end
end Pl

namespace Pl
open PySem PySem.Spec PyProof.Rows L2 PySem.W PySem.SeqAt
/-- the lambda's text: x: (len(x), x) -/
structure LamK (x : Str) (params : Arguments) (body : Expr) (scope : Scope) : Prop where
  co : (scope.isCoroutine = false)
  gen : (scope.isGenerator = false)
  kind : scope.kind = .function
  names : scope.names = [(x, .local), ("len", .globalImplicit)]
  bind : ∀ (q : Str) (cl : List (Str × Addr)) (pm cv ctv v : Value), bindArgs (kla_fn "<lambda>" q params body scope cl pm cv ctv) ⟨[v], []⟩ = pure [(x, v)]
  body : ∃ p1 p2 p3 p4 p5 k, body = .Tuple [.Call (.Name "len" p1) [.Name x p2] [] p3, .Name x p4] k p5
  db : (x == ("__debug__" : Str)) = false
  ne : ((("len" : Str)) == x) = false
theorem lamK_turn {prog : Program} {w : World} {A : Around} {x q : Str} {params : Arguments} {body : Expr} {scope : Scope} (L : LamK x params body scope) (hd : A.depth < recursionLimit) {s : Shared} {f c' : Addr} {cl : List (Str × Addr)} {pm ctv : Value} {mg mb : Str → Option Value} {p : AT}
    (hlim : s.heap.NoLimit) (hg : s.heap.Ns mainGlobals mg) (hm : mg "len" = none) (hb : s.heap.Ns builtinsNs mb) (hv : mb "len" = some (.builtin "len")) (hf : s.heap.get? f = some (kla_obj "<lambda>" q params body scope cl pm c' ctv)) (hc : ∃ (oc : Obj) (vs : Array Value) (t : Tok), s.heap.get? c' = some oc ∧ oc.data = .fields vs ∧ vs[1]? = some (.str q t))
    (hr : IsT prog w s.heap p.2 p.1) (hz : p.2.length ≤ sizeLine) : wpAny (model prog w) A (call (.ref f) [.ref p.1]) (KeyPure (keyT p) s) (fun _ _ => False) s := by
  obtain ⟨oc, vs, tk, hoc, hdc, hvc⟩ := hc
  refine wpAny_call (kla_callFunE hd hf rfl L.co L.gen rfl ⟨c', oc, vs, tk, rfl, hoc, hdc, hvc⟩ ?_)
  rw [L.bind]
  refine wpAny_pure (wpAny_newFunctionEnv (fun y hy => ?_) (fun y hy => ?_) (fun h1 hns hsb => ?_) L.kind)
  · rw [L.names, List.mem_cons, List.mem_singleton] at hy
    rcases hy with rfl | rfl
    · exact fun z => by cases z
    · exact fun z => by cases z
  · rw [List.mem_singleton] at hy
    rw [hy]
    show scope.names.lookup x = some .local
    rw [L.names]
    simp [List.lookup]
  · have kp : ∀ b o, s.heap.get? b = some o → h1.get? b = some o := fun b o e => hsb.extBut b o (Nat.ne_of_lt (Heap.lt_size e)) (Heap.get?_push_of_some _ e)
    refine ⟨hlim.keeps kp, kla_codeExpr ?_⟩
    obtain ⟨p1, p2, p3, p4, p5, k, rfl⟩ := L.body
    have hx : scope.names.lookup x = some .local := by rw [L.names]; simp [List.lookup]
    have hlen : scope.names.lookup (("len" : Str)) = some .globalImplicit := by
      rw [L.names, List.lookup_cons, L.ne]
      simp [List.lookup]
    refine wpAny_Tuple_spliced ?_
    show wpAny _ _ (spliced [(false, eval (.Call (.Name "len" p1) [.Name x p2] [] p3) (newEnv scope s.heap.objs.size mainGlobals cl (q ++ ".<locals>.") (some f) (.ref c') none builtinsNs)), (false, eval (.Name x p4) (newEnv scope s.heap.objs.size mainGlobals cl (q ++ ".<locals>.") (some f) (.ref c') none builtinsNs))]) _ _ _
    have nm : ∀ (h : Heap) (tk : Nat) (pp : Pos) {M : Model} {A' : Around} {Q : Value → Shared → Prop} {E : Value → Shared → Prop}, (∀ b o, h1.get? b = some o → h.get? b = some o) → Q (.ref p.1) { s with heap := h, toks := tk } →
        wpAny M A' (eval (.Name x pp) (newEnv scope s.heap.objs.size mainGlobals cl (q ++ ".<locals>.") (some f) (.ref c') none builtinsNs)) Q E { s with heap := h, toks := tk } := fun h tk pp M A' Q E kk qq =>
      wpAny_Name (wpAny_loadName_local L.kind (by exact hx) (hns.keeps kk) (v := .ref p.1) (by simp [List.lookup]) qq) L.db
    refine Calls.spliced_cons (wpAny_Call_Name_kw (Calls.Name_function_global L.kind (by exact hlen) (Calls.loadGlobal_builtin (mg := mg) (mb := mb) (hg.keeps kp) hm (hb.keeps kp) hv ?_) (by decide)))
    refine PyProof.Rows.callWith_builtin1 ?_ (by rfl) (by rfl)
    refine Calls.spliced_cons (nm _ _ _ (fun _ _ e => e) (Calls.spliced_nil ?_))
    obtain ⟨o, items, n, ho, hcl, hda, hi⟩ := isT_keep hr kp
    have hil : items.size = p.2.length := by
      have e := SeqAt.ReadsAll.length _ _ _ (reads_items (h := h1) hi)
      simpa using e
    have hz2 := sizeLine_eq
    refine len_tuple (items := items) ⟨o, ho, hcl, n, hda⟩ (by rw [hil]; omega) ?_
    refine Calls.spliced_cons (nm _ _ _ (fun _ _ e => e) (Calls.spliced_nil ?_))
    refine ⟨by rw [sizeLine_eq]; simp, ?_⟩
    refine ⟨_, _, rfl, fun b o e => Heap.get?_push_of_some _ (kp b o e), ?_⟩
    refine .tuple (Heap.get?_push_size _ rfl) rfl rfl ?_
    refine .cons (as := []) (bs := []) ?_ (.cons (as := []) (bs := []) ?_ .nil)
    · rw [hil]
      exact .int _ _
    · exact PyProof.Rows.Reads.keeps (fun b o e => Heap.get?_push_of_some _ (kp b o e)) (reads_T hr)
/-- sorted(e, key=lambda x: (len(x), x)) -/
def leK : AT → AT → Bool := dataLe false keyT
def tSortLot (T : List (Addr × Str)) (te : TE) : TE := fun σ H Q => te σ H fun v H1 => LamX.Tabs T H1 ∧ ∃ (a : Addr) (L : List AT), v = .ref a ∧ H1 a = some (.lst (refs L)) ∧ (∀ p ∈ L, H1 p.1 = some (.tup (p.2.map V.int))) ∧ L.length ≤ 64 ∧ (∀ p ∈ L, p.2.length ≤ 64) ∧
  ∀ H2 p, LamX.ExtN H1 H2 → LamX.Tabs T H2 → H2 p = none → Q (.ref p) (upd H2 p (.lst (refs (L.mergeSort leK))))
section
variable {X : Cx} {s : Shared} {pins : List (Addr × Obj)} {H : Hp} {σ : L2.St}
theorem pe_sortLot {e : Expr} {te : TE} {x : Str} {params : Arguments} {body : Expr} {scope : Scope} {T : List (Addr × Str)} {c P : Addr} {p lpos kpos pos : Pos} (L : LamK x params body scope) (hg : Gl X "sorted") (hm : X.mg "sorted" = none) (hml : X.mg "len" = none) (he : PE X e te) (TB : LamX.TabB X.base X.mg c P)
    (hT : (P, X.env.qual ++ "<lambda>") ∈ T) (hT1 : ∀ p ∈ T, p.1 = P → p.2 = X.env.qual ++ "<lambda>") (hcode : X.env.code = .ref c) (hr : Room 2 X.A) (hdef : defaultsOf params X.env = ([], []) := by rfl)
    (hst : backTo pos (starEach [e] X.env) = (false, eval e X.env) :: backTo pos (starEach [] X.env) := by rfl) (hpl : (backTo pos (starEach [e] X.env)).any (·.1) = false := by rfl) :
    PE X (.Call (.Name "sorted" p) [e] [⟨some "key", .Lambda params body scope lpos, kpos⟩] pos) (tSortLot T te) := by
  refine ⟨fun pins s σ H Q I h => ?_⟩; skip
  refine wpAny_Call_Name_kw (ld_blt I hg hm boot_sorted ?_)
  refine PyProof.Rows.callWith_kw ?_ hst hpl (by rfl) (by rfl)
  rw [hst]
  refine Calls.spliced_cons (thn (he.run pins s σ H _ I h) fun v s1 ⟨w, H1, I1, r1, hTt, a, ks, e1, ha, hk, hl, h64, q⟩ => Calls.spliced_nil ?_)
  subst e1
  obtain rfl : v = Value.ref a := r1; skip
  show wpAny _ _ (evalAll [do let v ← eval (.Lambda params body scope lpos) X.env; standAt pos; pure v]) _ _ s1
  refine wpAny_evalAll_cons (wpAny_bind (LamX.lam_make2 (T := T) (c := c) (P := P) I1 TB hcode hT hT1 hTt hdef (fun y hy hfr => ?_) fun f c' pm ctv H2 s2 I2 eN T2 hf hfn _ hco => ?_))
  · rw [L.names, List.mem_cons, List.mem_singleton] at hy
    rcases hy with rfl | rfl
    · cases hfr
    · cases hfr
  refine wpAny_bind (wpAny_standAt (wpAny_pure (wpAny_evalAll_nil ?_)))
  show wpAny _ _ (call (.builtin "sorted") [.ref a] [(Str.ofString "key", .ref f)]) _ _ s2
  obtain ⟨⟨oc, vs, t, hoc, hdc, hvc⟩, _, _⟩ := I2.hok c' _ hco
  have ha2 : H2 a = some (.lst (refs ks)) := eN _ _ ha fun _ z => by cases z
  have hk2 : ∀ p ∈ ks, IsT X.prog X.w s2.heap p.2 p.1 := fun p hp => I2.isT (SqT.of (eN _ _ (hk p hp) fun _ z => by cases z))
  obtain ⟨its, rv, pl, hz⟩ := I2.list (SqL.of ha2 : SqL X.K H2 a (refs ks))
  have e2 := refs_of_vals rv
  subst e2
  have lim2 := I2.nolimit
  obtain ⟨mb, b1, b2⟩ := I2.mod.blt
  have hdp := hr.dp
  have hun := hr.un
  have hzz := sizeLine_eq
  refine sorted_key_data (b := false) (R := fun v (p : AT) => v = Value.ref p.1) keyT pl.isList (each_refs (fun _ => rfl) ks) (alike_K ks) (Sortable.tuples fun _ => ⟨_, _, rfl⟩) (by omega) (fun p _ => ?_) (ksk_s1 _ _) (fun _ => ksk_l1 _ _) (fun _ => ksk_t1 _ _) (fun v p ev hp h tk kp => ?_) fun out k h' tk kp _ hl' lo eo => ?_
  · have := dep_K p
    omega
  · subst ev
    exact lamK_turn (s := { s2 with heap := h, toks := tk }) (A := X.A.in1.in1) L (by show X.A.depth < recursionLimit; omega) (lim2.keeps kp) ((I2.mod.glob.keeps I2.bk).keeps kp) hml ((b1.keeps I2.bk).keeps kp) ((b2 _ (by decide)).trans (by rfl)) (kp _ _ hf) ⟨oc, vs, t, kp _ _ hoc, hdc, hvc⟩ (isT_keep (hk2 p hp) kp) (by have := h64 p hp; omega)
  · have rv2 := refs_each eo
    have pm := List.mergeSort_perm ks leK
    have hlen : (refs (ks.mergeSort leK)).length ≤ sizeLine := by
      unfold refs
      rw [List.length_map, pm.length_eq]
      omega
    have new : H2 (s2.heap.objs.size + 1) = none := I2.hok.fresh (Nat.le_succ _)
    exact ⟨.ref _, upd H2 (s2.heap.objs.size + 1) (.lst (refs (ks.mergeSort leK))), I2.laid (t' := tk) kp (Nat.le_succ _) ⟨hlen, out, k, by rw [rv2]; exact vals_of_refs _, hl'⟩, rfl, q H2 _ eN T2 new⟩
end
end Pl

namespace Pl
open PySem PySem.W
/-! ### lots, reckoned -/
abbrev Z := List Int
def has (l : Z) (x : Int) : Bool := decide (x ∈ l)
/-- what two have in common -/
def cap (a b : Z) : Z := a.filter (has b)
/-- without these -/
def wo (a b : Z) : Z := a.filter fun x => !has b x
def stepS (ls : List Z) (c : Int) : List Z := ls ++ ls.map (· ++ [c])
/-- all lots within one, as they are grown -/
def subs (u : Z) : List Z := u.foldl stepS [[]]
def keyZ (l : Z) : PyData := .tuple [.int l.length, .tuple (l.map .int)]
def leZ : Z → Z → Bool := dataLe false keyZ
/-- by size, then ascending -/
def parts (u : Z) : List Z := (subs u).mergeSort leZ
/-- no pair has only bad ones in common -/
def safe (W R : List Z) (bad : Z) : Bool := W.all fun w => R.all fun r => w.any fun c => has r c && !has bad c
/-- the lots sh that write and read have in common each have a good one -/
def had (sh : List Z) (bad : Z) : Bool := sh.all fun l => decide ((cap l bad).length < l.length)
def within_ (l b : Z) : Bool := l.all (has b)
def cnd (S : Z → Bool) (u : Z) (acc : List Z) (b : Z) : Bool := S (wo u b) && !acc.any (fun l => within_ l b)
def stepB (S : Z → Bool) (u : Z) (acc : List Z) (b : Z) : List Z := if cnd S u acc b = true then acc ++ [b] else acc
def leastS (S : Z → Bool) (u : Z) : List Z := (parts u).foldl (stepB S u) []
theorem has_iff {l : Z} {x : Int} : has l x = true ↔ x ∈ l := decide_eq_true_iff
theorem leZ_total : ∀ a b : Z, (leZ a b || leZ b a) = true := fun a b => by
  rw [Bool.or_eq_true]
  exact (sortLe_total (PyProof.Rows.listOrd PyProof.Rows.itemOrd) false fun b : Z => keyToks (keyZ b)).total a b
theorem leZ_trans : ∀ a b c : Z, leZ a b = true → leZ b c = true → leZ a c = true := (sortLe_total (PyProof.Rows.listOrd PyProof.Rows.itemOrd) false fun b : Z => keyToks (keyZ b)).trans
theorem leZ_len {a b : Z} (h : leZ a b = true) : a.length ≤ b.length := by
  have h' : (!dataLt (keyZ b) (keyZ a)) = true := h
  unfold keyZ at h'
  rw [dataLt_pair (by simp [alike]) (by simp [alike, alike_ints])] at h'
  simp only [PyData.eqv, beq_iff_eq, dataLt_int] at h'
  by_cases e : (b.length : Int) = a.length
  · omega
  · rw [if_neg e] at h'
    have : ¬ (b.length : Int) < a.length := by simpa using h'
    omega
theorem parts_sorted (u : Z) : (parts u).Pairwise fun a b => a.length ≤ b.length := (List.pairwise_mergeSort leZ_trans leZ_total (subs u)).imp leZ_len
theorem parts_perm (u : Z) : (parts u).Perm (subs u) := List.mergeSort_perm _ _
theorem subs_snoc (u : Z) (c : Int) : subs (u ++ [c]) = stepS (subs u) c := by
  unfold subs
  rw [List.foldl_append]
  rfl
theorem mem_subs {l : Z} : ∀ {u : Z}, l ∈ subs u ↔ l.Sublist u := fun {u} => by
  have key : ∀ (r l : Z), l ∈ subs r.reverse ↔ l.Sublist r.reverse := fun r => by
    induction r with
    | nil =>
      intro l
      simp [subs]
    | cons c r ih =>
      intro l
      rw [List.reverse_cons, subs_snoc]
      unfold stepS
      rw [List.mem_append, List.mem_map, List.sublist_append_iff]
      constructor
      · rintro (h | ⟨t, ht, rfl⟩)
        · exact ⟨l, [], by simp, (ih l).mp h, by simp⟩
        · exact ⟨t, [c], rfl, (ih t).mp ht, List.Sublist.refl _⟩
      · rintro ⟨l1, l2, rfl, h1, h2⟩
        cases h2 with
        | cons _ h =>
          cases h
          left
          rw [List.append_nil]
          exact (ih l1).mpr h1
        | cons_cons _ h =>
          cases h
          right
          exact ⟨l1, (ih l1).mpr h1, rfl⟩
  have := key u.reverse l
  rwa [List.reverse_reverse] at this
theorem mem_parts {l u : Z} : l ∈ parts u ↔ l.Sublist u := (parts_perm u).mem_iff.trans mem_subs
/-- a strictly ascending list whose members stand in another one is a part of it -/
theorem asc_sub : ∀ {a b : Z}, a.Pairwise (· < ·) → b.Pairwise (· < ·) → (∀ x ∈ a, x ∈ b) → a.Sublist b
  | [], b, _, _, _ => List.nil_sublist b
  | x :: a, [], _, _, h => absurd (h x List.mem_cons_self) List.not_mem_nil
  | x :: a, y :: b, ha, hb, h => by
    obtain ⟨a1, a2⟩ := List.pairwise_cons.mp ha
    obtain ⟨b1, b2⟩ := List.pairwise_cons.mp hb
    by_cases e : x = y
    · subst e
      refine List.Sublist.cons_cons _ (asc_sub a2 b2 fun z hz => ?_)
      rcases List.mem_cons.mp (h z (List.mem_cons_of_mem _ hz)) with r | r
      · have := a1 z hz
        omega
      · exact r
    · refine List.Sublist.cons _ (asc_sub ha b2 fun z hz => ?_)
      have hx : x ∈ b := by
        rcases List.mem_cons.mp (h x List.mem_cons_self) with r | r
        · exact absurd r e
        · exact r
      have yx := b1 x hx
      rcases List.mem_cons.mp (h z hz) with r | r
      · subst r
        rcases List.mem_cons.mp hz with q | q
        · omega
        · have := a1 z q
          omega
      · exact r
/-- a lot of so many copies -/
def Lot (n : Int) (l : Z) : Prop := l.Pairwise (· < ·) ∧ ∀ x ∈ l, 0 ≤ x ∧ x < n
theorem Lot.sub {n : Int} {a b : Z} (h : Lot n b) (s : a.Sublist b) : Lot n a := ⟨h.1.sublist s, fun x hx => h.2 x (s.subset hx)⟩
theorem Lot.mono {n m : Int} {a : Z} (h : Lot n a) (l : n ≤ m) : Lot m a := ⟨h.1, fun x hx => ⟨(h.2 x hx).1, Int.lt_of_lt_of_le (h.2 x hx).2 l⟩⟩
def five : Z := [0, 1, 2, 3, 4]
theorem Lot.five {l : Z} (h : Lot 5 l) : l.Sublist five := asc_sub h.1 (by decide) fun x hx => by
  obtain ⟨a, b⟩ := h.2 x hx
  have : x = 0 ∨ x = 1 ∨ x = 2 ∨ x = 3 ∨ x = 4 := by omega
  rcases this with rfl | rfl | rfl | rfl | rfl <;> simp [Pl.five]
theorem Lot.len {l : Z} (h : Lot 5 l) : l.length ≤ 5 := h.five.length_le
theorem cap_sub (a b : Z) : (cap a b).Sublist a := List.filter_sublist
theorem wo_sub (a b : Z) : (wo a b).Sublist a := List.filter_sublist
theorem subs_len : ∀ u : Z, (subs u).length = 2 ^ u.length := fun u => by
  have key : ∀ r : Z, (subs r.reverse).length = 2 ^ r.length := fun r => by
    induction r with
    | nil => rfl
    | cons c r ih =>
      rw [List.reverse_cons, subs_snoc]
      unfold stepS
      rw [List.length_append, List.length_map, ih, List.length_cons, Nat.pow_succ]
      omega
  have := key u.reverse
  rwa [List.reverse_reverse, List.length_reverse] at this
/-- had, of any list with just the common lots -/
theorem had_safe {sh W R : List Z} {bad : Z} (h : ∀ l, l ∈ sh ↔ ∃ w ∈ W, ∃ r ∈ R, l = cap w r) : had sh bad = safe W R bad := by
  rw [Bool.eq_iff_iff]
  unfold had safe
  rw [List.all_eq_true, List.all_eq_true]
  have one : ∀ l : Z, ((cap l bad).length < l.length) ↔ ∃ c ∈ l, c ∉ bad := fun l => by
    unfold cap
    rw [List.length_filter_lt_length_iff_exists]
    simp [has]
  constructor
  · intro g w hw
    rw [List.all_eq_true]
    intro r hr
    obtain ⟨c, hc, nb⟩ := (one _).mp (of_decide_eq_true (g (cap w r) ((h _).mpr ⟨w, hw, r, hr, rfl⟩)))
    obtain ⟨h1, h2⟩ := List.mem_filter.mp hc
    rw [List.any_eq_true]
    exact ⟨c, h1, by simp [has, has_iff.mp h2, nb]⟩
  · intro g l hl
    obtain ⟨w, hw, r, hr, rfl⟩ := (h l).mp hl
    have := List.all_eq_true.mp (g w hw) r hr
    obtain ⟨c, hc, hh⟩ := List.any_eq_true.mp this
    rw [Bool.and_eq_true] at hh
    refine decide_eq_true ((one _).mpr ⟨c, List.mem_filter.mpr ⟨hc, hh.1⟩, fun z => ?_⟩)
    have := hh.2
    simp [has, z] at this
theorem safe_mem {W R W' R' : List Z} {b b' : Z} (hW : ∀ l, l ∈ W ↔ l ∈ W') (hR : ∀ l, l ∈ R ↔ l ∈ R') (hb : ∀ x, x ∈ b ↔ x ∈ b') : safe W R b = safe W' R' b' := by
  rw [Bool.eq_iff_iff]
  unfold safe
  simp only [List.all_eq_true, List.any_eq_true, Bool.and_eq_true, Bool.not_eq_true', has, decide_eq_true_eq, decide_eq_false_iff_not]
  constructor
  · intro g w hw r hr
    obtain ⟨c, h1, h2, h3⟩ := g w ((hW w).mpr hw) r ((hR r).mpr hr)
    exact ⟨c, h1, h2, fun z => h3 ((hb c).mpr z)⟩
  · intro g w hw r hr
    obtain ⟨c, h1, h2, h3⟩ := g w ((hW w).mp hw) r ((hR r).mp hr)
    exact ⟨c, h1, h2, fun z => h3 ((hb c).mp z)⟩
theorem leastS_congr {S S' : Z → Bool} (h : ∀ b, S b = S' b) (u : Z) : leastS S u = leastS S' u := by
  have : S = S' := funext h
  rw [this]
/-- what the run told it told behind some first ones -/
theorem run_mem {S : Z → Bool} {u b : Z} : ∀ (ps acc : List Z), b ∈ ps.foldl (stepB S u) acc → b ∈ acc ∨ ∃ p1 p2, ps = p1 ++ b :: p2 ∧ cnd S u (p1.foldl (stepB S u) acc) b = true
  | [], acc, h => .inl h
  | p :: ps, acc, h => by
    rcases run_mem ps _ h with g | ⟨p1, p2, rfl, g⟩
    · unfold stepB at g
      split at g
      · rename_i c
        rcases List.mem_append.mp g with g | g
        · exact .inl g
        · rw [List.mem_singleton] at g
          subst g
          exact .inr ⟨[], ps, rfl, c⟩
      · exact .inl g
    · exact .inr ⟨p :: p1, p2, rfl, g⟩
theorem run_keeps {S : Z → Bool} {u l : Z} : ∀ (ps acc : List Z), l ∈ acc → l ∈ ps.foldl (stepB S u) acc
  | [], _, h => h
  | p :: ps, acc, h => run_keeps ps _ (by
    unfold stepB
    split
    · exact List.mem_append_left _ h
    · exact h)
theorem run_has {S : Z → Bool} {u b : Z} (hS : S (wo u b) = true) : ∀ (ps acc : List Z), b ∈ ps → ∃ l ∈ ps.foldl (stepB S u) acc, within_ l b = true
  | [], _, h => by cases h
  | p :: ps, acc, h => by
    rcases List.mem_cons.mp h with e | e; skip
    · subst e
      by_cases c : cnd S u acc b = true
      · refine ⟨b, run_keeps ps _ ?_, List.all_eq_true.mpr fun x hx => has_iff.mpr hx⟩
        unfold stepB
        rw [if_pos c]
        exact List.mem_append_right _ (List.mem_singleton.mpr rfl)
      · unfold cnd at c
        rw [hS, Bool.true_and] at c
        have c' : acc.any (fun l => within_ l b) = true := by simpa using c
        obtain ⟨l, hl, hw⟩ := List.any_eq_true.mp c'
        exact ⟨l, run_keeps ps _ (by
          unfold stepB
          split
          · exact List.mem_append_left _ hl
          · exact hl), hw⟩
    · exact run_has hS ps _ e
/-- made ruly they are safe -/
theorem least_safe {S : Z → Bool} {u b : Z} (h : b ∈ leastS S u) : b.Sublist u ∧ S (wo u b) = true := by
  rcases run_mem _ _ h with g | ⟨p1, p2, e, g⟩
  · cases g
  · refine ⟨mem_parts.mp (e ▸ List.mem_append_right _ List.mem_cons_self), ?_⟩
    unfold cnd at g
    exact (Bool.and_eq_true _ _ ▸ g).1
/-- and with one of them unruly again not -/
theorem least_not {S : Z → Bool} {u b : Z} {c : Int} (h : b ∈ leastS S u) (hc : c ∈ b) : S (wo u (b.filter fun x => decide (x ≠ c))) = false := by
  rcases run_mem _ _ h with g | ⟨p1, p2, e, g⟩
  · cases g
  · by_cases hS : S (wo u (b.filter fun x => decide (x ≠ c))) = true
    · exfalso
      have sb : b.Sublist u := mem_parts.mp (e ▸ List.mem_append_right _ List.mem_cons_self)
      have hm : (b.filter fun x => decide (x ≠ c)) ∈ parts u := mem_parts.mpr (List.filter_sublist.trans sb)
      have lt : (b.filter fun x => decide (x ≠ c)).length < b.length := List.length_filter_lt_length_iff_exists.mpr ⟨c, hc, by simp⟩
      have so := parts_sorted u
      rw [e] at hm so
      have in1 : (b.filter fun x => decide (x ≠ c)) ∈ p1 := by
        rcases List.mem_append.mp hm with q | q; skip
        · exact q
        · rcases List.mem_cons.mp q with q | q; skip
          · have := congrArg List.length q
            omega
          · have := (List.pairwise_cons.mp (List.pairwise_append.mp so).2.1).1 _ q
            omega
      obtain ⟨l, hl, hw⟩ := run_has hS p1 [] in1
      unfold cnd at g
      rw [Bool.and_eq_true] at g
      have g2 : (p1.foldl (stepB S u) []).any (fun l => within_ l b) = false := by simpa using g.2
      have : (p1.foldl (stepB S u) []).any (fun l => within_ l b) = true := List.any_eq_true.mpr ⟨l, hl, List.all_eq_true.mpr fun x hx => by
        have q := has_iff.mp (List.all_eq_true.mp hw x hx)
        exact has_iff.mpr (List.mem_filter.mp q).1⟩
      rw [g2] at this
      cases this
    · exact Bool.eq_false_iff.mpr hS
theorem within_cap {l b : Z} : (cap l b = l) ↔ within_ l b = true := by
  unfold cap within_
  rw [List.filter_eq_self, List.all_eq_true]
theorem within_wo {l b : Z} : (wo l b = []) ↔ within_ l b = true := by
  unfold wo within_
  rw [List.filter_eq_nil_iff, List.all_eq_true]
  simp
end Pl

namespace Pl
open PySem PySem.Spec PyProof.Rows L2 PySem.W PySem.SeqAt
/-! ### sorted(a tuple of ints, key=lambda copy: (-votes[copy], copy)) -/
theorem each_ints : ∀ {ns : Z} {us : List Value}, Vals (ns.map V.int) us → EachIs (fun (u : Value) (n : Int) => RelV (V.int n) u) us ns
  | [], _, .nil => .nil
  | _ :: _, _, .cons r t => .cons r (each_ints t)
theorem ints_each : ∀ {ns : Z} {us : List Value}, EachIs (fun (u : Value) (n : Int) => RelV (V.int n) u) us ns → Vals (ns.map V.int) us
  | _, _, .nil => .nil
  | _, _, .cons r t => .cons r (ints_each t)
def keyV (vts : Z) (c : Int) : PyData := .tuple [.int (-(vts.getD c.toNat 0)), .int c]
/-- the lambda's text -/
structure LamV (params : Arguments) (body : Expr) (scope : Scope) : Prop where
  co : (scope.isCoroutine = false)
  gen : (scope.isGenerator = false)
  kind : scope.kind = .function
  names : scope.names = [(("copy" : Str), NameKind.local), (("votes" : Str), NameKind.free)]
  bind : ∀ (q : Str) (cl : List (Str × Addr)) (pm cv ctv v : Value), bindArgs (kla_fn "<lambda>" q params body scope cl pm cv ctv) ⟨[v], []⟩ = pure [(("copy" : Str), v)]
  body : ∃ p1 p2 p3 p4 p5 p6 k, body = .Tuple [.UnaryOp .USub (.Subscript (.Name "votes" p1) (.Name "copy" p2) p3) p4, .Name "copy" p5] k p6
theorem lamV_turn {prog : Program} {w : World} {A : Around} {q : Str} {params : Arguments} {body : Expr} {scope : Scope} (L : LamV params body scope) (hd : A.depth < recursionLimit) {s : Shared} {f c' vc va : Addr} {cl : List (Str × Addr)} {pm ctv u : Value} {x : Int} {vts : Z} {its : List Value}
    (hlim : s.heap.NoLimit) (hf : s.heap.get? f = some (kla_obj "<lambda>" q params body scope cl pm c' ctv)) (hc : ∃ (oc : Obj) (vs : Array Value) (t : Tok), s.heap.get? c' = some oc ∧ oc.data = .fields vs ∧ vs[1]? = some (.str q t))
    (hcl : cl.lookup ("votes" : Str) = some vc) (hcell : s.heap.IsCell vc (some (.ref va))) (hva : PyProof.Rows.IsTup s.heap va its.toArray) (hvl : Vals (vts.map V.int) its) (hz : vts.length ≤ 100) (x0 : 0 ≤ x) (x1 : x.toNat < vts.length) (hu : RelV (V.int x) u) :
    wpAny (model prog w) A (call (.ref f) [u]) (KeyPure (keyV vts x) s) (fun _ _ => False) s := by
  obtain ⟨oc, vs, tk, hoc, hdc, hvc⟩ := hc
  obtain ⟨tx, rfl⟩ := hu
  refine wpAny_call (kla_callFunE hd hf rfl L.co L.gen rfl ⟨c', oc, vs, tk, rfl, hoc, hdc, hvc⟩ ?_)
  rw [L.bind]
  refine wpAny_pure (wpAny_newFunctionEnv (fun y hy => ?_) (fun y hy => ?_) (fun h1 hns hsb => ?_) L.kind)
  · rw [L.names, List.mem_cons, List.mem_singleton] at hy
    rcases hy with rfl | rfl
    · exact fun z => by cases z
    · exact fun z => by cases z
  · rw [List.mem_singleton] at hy
    rw [hy]
    show scope.names.lookup ("copy" : Str) = some .local
    rw [L.names]
    rfl
  · have kp : ∀ b o, s.heap.get? b = some o → h1.get? b = some o := fun b o e => hsb.extBut b o (Nat.ne_of_lt (Heap.lt_size e)) (Heap.get?_push_of_some _ e)
    refine ⟨hlim.keeps kp, kla_codeExpr ?_⟩
    obtain ⟨p1, p2, p3, p4, p5, p6, k, rfl⟩ := L.body
    have hx : scope.names.lookup ("copy" : Str) = some .local := by rw [L.names]; rfl
    have hv : scope.names.lookup ("votes" : Str) = some .free := by rw [L.names]; rfl
    have hl : its.length = vts.length := by
      have := hvl.length
      rw [List.length_map] at this
      exact this.symm
    obtain ⟨y, ey⟩ : ∃ y, vts[x.toNat]? = some y := ⟨_, List.getElem?_eq_getElem x1⟩
    obtain ⟨wv, ew, rw'⟩ := hvl.get (show (vts.map V.int)[x.toNat]? = some (V.int y) from by rw [List.getElem?_map, ey]; rfl)
    obtain ⟨ty, rfl⟩ := rw'
    refine wpAny_Tuple_spliced ?_
    show wpAny _ _ (spliced [(false, eval (.UnaryOp .USub (.Subscript (.Name "votes" p1) (.Name "copy" p2) p3) p4) (newEnv scope s.heap.objs.size mainGlobals cl (q ++ ".<locals>.") (some f) (.ref c') none builtinsNs)), (false, eval (.Name "copy" p5) (newEnv scope s.heap.objs.size mainGlobals cl (q ++ ".<locals>.") (some f) (.ref c') none builtinsNs))]) _ _ _
    have nm : ∀ (h : Heap) (tk : Nat) (pp : Pos) {M : Model} {A' : Around} {Q : Value → Shared → Prop} {E : Value → Shared → Prop}, (∀ b o, h1.get? b = some o → h.get? b = some o) → Q (.int x tx) { s with heap := h, toks := tk } →
        wpAny M A' (eval (.Name "copy" pp) (newEnv scope s.heap.objs.size mainGlobals cl (q ++ ".<locals>.") (some f) (.ref c') none builtinsNs)) Q E { s with heap := h, toks := tk } := fun h tk pp M A' Q E kk qq =>
      wpAny_Name (wpAny_loadName_local L.kind (by exact hx) (hns.keeps kk) (v := .int x tx) (by simp [List.lookup]) qq) (by decide)
    refine Calls.spliced_cons (wpAny_UnaryOp (Subscript_ (wpAny_Name (wpAny_loadName_free L.kind (by exact hv) hcl (hcell.keeps kp) ?_) (by decide))))
    refine nm _ _ _ (fun _ _ e => e) ?_
    have pl : PyProof.Rows.IsTup h1 va its.toArray := by
      obtain ⟨o, e1, e2⟩ := hva
      exact ⟨o, kp _ _ e1, e2⟩
    have e63 := line63
    have sj : seqIndex? x its.toArray.size = some x.toNat := by
      rw [seqIndex_of x0 (by rw [List.size_toArray, hl]; omega)]
    refine subscriptTail_builtinR (x := .int y ty) pl.typeIs slot_tuple_getitem.lookup (getItem_tuple (j := x.toNat) pl (by omega) (by omega) sj (by simpa using ew) ⟨rfl, ?_⟩)
    refine neg_int ?_
    refine Calls.spliced_cons (nm _ _ _ (fun _ _ e => e) (Calls.spliced_nil ?_))
    refine ⟨by rw [sizeLine_eq]; simp, ?_⟩
    refine ⟨_, _, rfl, fun b o e => Heap.get?_push_of_some _ (kp b o e), ?_⟩
    have eg : vts.getD x.toNat 0 = y := by
      rw [List.getD_eq_getElem?_getD, ey]
      rfl
    unfold keyV
    rw [eg]
    refine .tuple (Heap.get?_push_size _ rfl) rfl rfl ?_
    exact .cons (as := []) (bs := []) (.int _ _) (.cons (as := []) (bs := []) (.int _ _) .nil)
/-! sorted(e, key=the lambda), e a tuple of ints -/
def leV (vts : Z) : Int → Int → Bool := dataLe false (keyV vts)
def tSortV (T : List (Addr × Str)) (i : Nat) (te : TE) : TE := fun σ H Q => ∃ (va : Addr) (vts : Z), σ[i]? = some (some (.ref va)) ∧ H va = some (.tup (vts.map V.int)) ∧ vts.length ≤ 100 ∧ te σ H fun v H1 => Same H H1 ∧ LamX.Tabs T H1 ∧ ∃ (a : Addr) (ns : Z), v = .ref a ∧ H1 a = some (.tup (ns.map V.int)) ∧ (∀ x ∈ ns, 0 ≤ x ∧ x.toNat < vts.length) ∧
  ∀ H2 p, LamX.ExtN H1 H2 → LamX.Tabs T H2 → H2 p = none → Q (.ref p) (upd H2 p (.lst ((ns.mergeSort (leV vts)).map V.int)))
theorem dep_V (vts : Z) (x : Int) : (keyV vts x).depth ≤ 1 := by
  unfold keyV
  simp [PyData.depth, PyData.depthAll]
theorem alike_V (vts : Z) (bs : Z) : AllAlike (bs.map (keyV vts)) := AllAlike.of fun a b => by simp [keyV, alike, alikeAll]
section
variable {X : Cx} {s : Shared} {pins : List (Addr × Obj)} {H : Hp} {σ : L2.St}
theorem pe_sortV {e : Expr} {te : TE} {params : Arguments} {body : Expr} {scope : Scope} {T : List (Addr × Str)} {c P : Addr} {p lpos kpos pos : Pos} {i : Nat} (L : LamV params body scope) (hg : Gl X "sorted") (hm : X.mg "sorted" = none) (he : PE X e te) (TB : LamX.TabB X.base X.mg c P)
    (hT : (P, X.env.qual ++ "<lambda>") ∈ T) (hT1 : ∀ p ∈ T, p.1 = P → p.2 = X.env.qual ++ "<lambda>") (hcode : X.env.code = .ref c) (hr : Room 2 X.A) (hN : X.N[i]? = some ("votes" : Str)) (hv : X.env.scope.names.lookup ("votes" : Str) = some .cell) (hdef : defaultsOf params X.env = ([], []) := by rfl)
    (hst : backTo pos (starEach [e] X.env) = (false, eval e X.env) :: backTo pos (starEach [] X.env) := by rfl) (hpl : (backTo pos (starEach [e] X.env)).any (·.1) = false := by rfl) :
    PE X (.Call (.Name "sorted" p) [e] [⟨some "key", .Lambda params body scope lpos, kpos⟩] pos) (tSortV T i te) := by
  refine ⟨fun pins s σ H Q I h => ?_⟩; skip
  obtain ⟨va, vts, hs, hva, h100, h⟩ := h
  refine wpAny_Call_Name_kw (ld_blt I hg hm boot_sorted ?_)
  refine PyProof.Rows.callWith_kw ?_ hst hpl (by rfl) (by rfl)
  rw [hst]
  refine Calls.spliced_cons (thn (he.run pins s σ H _ I h) fun v s1 ⟨w, H1, I1, r1, sH, hTt, a, ns, e1, ha, hn, q⟩ => Calls.spliced_nil ?_)
  subst e1
  obtain rfl : v = Value.ref a := r1; skip
  show wpAny _ _ (evalAll [do let v ← eval (.Lambda params body scope lpos) X.env; standAt pos; pure v]) _ _ s1
  obtain ⟨vc, hvc0⟩ := I1.ok.has ("votes" : Str) (.inl hv)
  have hfree : ∀ y ∈ scope.names, y.2 = .free → ∃ c, X.env.cells.lookup y.1 = some c := fun y hy hfr => by
    rw [L.names, List.mem_cons, List.mem_singleton] at hy
    rcases hy with rfl | rfl
    · cases hfr
    · exact ⟨vc, hvc0⟩
  refine wpAny_evalAll_cons (wpAny_bind (LamX.lam_make2 (T := T) (c := c) (P := P) I1 TB hcode hT hT1 hTt hdef hfree fun f c' pm ctv H2 s2 I2 eN T2 hf hfn _ hco => ?_))
  refine wpAny_bind (wpAny_standAt (wpAny_pure (wpAny_evalAll_nil ?_)))
  show wpAny _ _ (call (.builtin "sorted") [.ref a] [(Str.ofString "key", .ref f)]) _ _ s2
  obtain ⟨⟨oc, vs, t, hoc, hdc, hvc⟩, _, _⟩ := I2.hok c' _ hco
  have ha2 : H2 a = some (.tup (ns.map V.int)) := eN _ _ ha fun _ z => by cases z
  have hva2 : H2 va = some (.tup (vts.map V.int)) := eN _ _ (sH _ _ hva) fun _ z => by cases z
  obtain ⟨its, rv, pl, hz⟩ := I2.tuple (SqT.of ha2 : SqT X.K H2 a (ns.map V.int))
  obtain ⟨ivs, rvv, plv, hzv⟩ := I2.tuple (SqT.of hva2 : SqT X.K H2 va (vts.map V.int))
  have e := each_ints rv
  have hz' : ns.length ≤ sizeLine := by
    rw [List.length_map] at hz
    exact hz
  have lim2 := I2.nolimit
  have hdp := hr.dp
  have hun := hr.un
  have hzz := sizeLine_eq
  have hclo : (cloFrom X.env.cells scope.names []).lookup ("votes" : Str) = some vc := by
    rw [L.names]
    show (cloFrom X.env.cells [(("copy" : Str), NameKind.local), (("votes" : Str), NameKind.free)] []).lookup ("votes" : Str) = some vc
    have : cloFrom X.env.cells [(("copy" : Str), NameKind.local), (("votes" : Str), NameKind.free)] [] = [(("votes" : Str), (X.env.cells.lookup ("votes" : Str)).getD 0)] := rfl
    rw [this, hvc0]
    rfl
  have hcell : s2.heap.IsCell vc (some (.ref va)) := by
    obtain ⟨m, hn, hl⟩ := I2.loc
    obtain ⟨w', r, z⟩ := hl i ("votes" : Str) (.ref va) hN hs (.inr (.inl hv))
    obtain rfl : w' = Value.ref va := r
    rcases z with ⟨k', _⟩ | ⟨_, c3, e', z⟩
    · have k' : X.env.scope.names.lookup ("votes" : Str) = some .local := k'
      rw [hv] at k'
      cases k'
    · rw [show X.env.cells.lookup ("votes" : Str) = some c3 from e'] at hvc0
      cases hvc0
      exact z
  refine tup_sorted_key (R := fun (u : Value) (n : Int) => RelV (V.int n) u) (keyV vts) pl e (alike_V vts ns) (Sortable.tuples fun _ => ⟨_, _, rfl⟩) hz' (fun x _ => ?_) (fun u x ru hx h tk kp => ?_) fun out k h' tk kp hl' lo eo => ?_
  · have := dep_V vts x
    omega
  · have hx2 := hn x hx
    exact lamV_turn (s := { s2 with heap := h, toks := tk }) (A := X.A.in1.in1) L (by show X.A.depth < recursionLimit; omega) (lim2.keeps kp) (kp _ _ hf) ⟨oc, vs, t, kp _ _ hoc, hdc, hvc⟩ hclo (hcell.keeps kp) (by
      obtain ⟨o, e1, e2⟩ := plv
      exact ⟨o, kp _ _ e1, e2⟩) rvv h100 hx2.1 hx2.2 ru
  · have pm := List.mergeSort_perm ns (leV vts)
    have hlen : ((ns.mergeSort (leV vts)).map V.int).length ≤ sizeLine := by
      rw [List.length_map, pm.length_eq]
      exact hz'
    have new : H2 (s2.heap.objs.size + 1) = none := I2.hok.fresh (Nat.le_succ _)
    exact ⟨.ref _, upd H2 (s2.heap.objs.size + 1) (.lst ((ns.mergeSort (leV vts)).map V.int)), I2.laid (t' := tk) kp (Nat.le_succ _) ⟨hlen, out, k, ints_each eo, hl'⟩, rfl, q H2 _ eN T2 new⟩
end
end Pl

namespace Pl
open PySem PySem.W PyProof.Rows
/-! ### votes, reckoned -/
def vt (v : Z) (c : Int) : Int := v.getD c.toNat 0
def vsum (v l : Z) : Int := (l.map (vt v)).sum
def heavy (v : Z) (u : Nat) (l : Z) : Z := (l.mergeSort (leV v)).take u
def sureP (v : Z) (u : Nat) (l : Z) : Int := vsum v l - vsum v (heavy v u l)
def enoughP (v : Z) (need : Int) (u : Nat) (l : Z) : Bool := decide (sureP v u l > v.sum - need)
def writeP (v : Z) (need : Int) (l : Z) : Bool := decide (vsum v l ≥ need)
theorem leV_total (v : Z) : ∀ a b : Int, (leV v a b || leV v b a) = true := fun a b => by
  rw [Bool.or_eq_true]
  exact (sortLe_total (PyProof.Rows.listOrd PyProof.Rows.itemOrd) false fun b : Int => keyToks (keyV v b)).total a b
theorem leV_trans (v : Z) : ∀ a b c : Int, leV v a b = true → leV v b c = true → leV v a c = true := (sortLe_total (PyProof.Rows.listOrd PyProof.Rows.itemOrd) false fun b : Int => keyToks (keyV v b)).trans
theorem leV_le {v : Z} {a b : Int} (h : leV v a b = true) : vt v b ≤ vt v a := by
  have h' : (!dataLt (keyV v b) (keyV v a)) = true := h
  unfold keyV at h'
  rw [dataLt_ii] at h'
  rw [Bool.not_eq_true', decide_eq_false_iff_not] at h'
  have h2 : ¬ (-(v.getD b.toNat 0) < -(v.getD a.toNat 0) ∨ (-(v.getD b.toNat 0) = -(v.getD a.toNat 0) ∧ b < a)) := h'
  unfold vt
  omega
theorem sorted_V (v l : Z) : (l.mergeSort (leV v)).Pairwise fun a b => vt v b ≤ vt v a := (List.pairwise_mergeSort (leV_trans v) (leV_total v) l).imp leV_le
theorem perm_sum {a b : Z} (h : a.Perm b) : a.sum = b.sum := by
  induction h with
  | nil => rfl
  | cons x _ ih => rw [List.sum_cons, List.sum_cons, ih]
  | swap x y l =>
    simp only [List.sum_cons]
    omega
  | trans _ _ h1 h2 => exact h1.trans h2
theorem vsum_perm {v a b : Z} (h : a.Perm b) : vsum v a = vsum v b := perm_sum (h.map _)
theorem vsum_cons (v : Z) (x : Int) (l : Z) : vsum v (x :: l) = vt v x + vsum v l := List.sum_cons
theorem vsum_app (v a b : Z) : vsum v (a ++ b) = vsum v a + vsum v b := by
  unfold vsum
  rw [List.map_append, List.sum_append]
theorem vt_nn {v : Z} (h : ∀ x ∈ v, 0 ≤ x) (c : Int) : 0 ≤ vt v c := by
  unfold vt
  rw [List.getD_eq_getElem?_getD]; skip
  cases e : v[c.toNat]? with
  | none => exact Int.le_refl _
  | some x => exact h x (List.mem_of_getElem? e)
theorem vsum_nn {v : Z} (h : ∀ x ∈ v, 0 ≤ x) : ∀ l : Z, 0 ≤ vsum v l
  | [] => Int.le_refl _
  | x :: l => by
    rw [vsum_cons]
    have := vt_nn h x
    have := vsum_nn h l
    omega
/-- what is left when so many of most votes are left out -/
theorem sure_drop (v : Z) (u : Nat) (l : Z) : sureP v u l = (((l.mergeSort (leV v)).map (vt v)).drop u).sum := by
  unfold sureP heavy
  rw [← vsum_perm (List.mergeSort_perm l (leV v))]
  generalize l.mergeSort (leV v) = ds
  have e := congrArg List.sum (List.take_append_drop u (ds.map (vt v)))
  rw [List.sum_append, ← List.map_take] at e
  unfold vsum
  omega
theorem top_sum {v : Z} (nn : ∀ x ∈ v, 0 ≤ x) : ∀ {ds s : Z} {u : Nat}, ds.Pairwise (fun a b => vt v b ≤ vt v a) → s.Nodup → (∀ x ∈ s, x ∈ ds) → s.length ≤ u → vsum v s ≤ vsum v (ds.take u)
  | [], s, u, _, _, sub, _ => by
    have : s = [] := by
      cases s with
      | nil => rfl
      | cons x s => exact absurd (sub x List.mem_cons_self) List.not_mem_nil
    rw [this, List.take_nil]
    exact Int.le_refl _
  | d :: ds, s, 0, _, _, _, l => by
    have : s = [] := List.eq_nil_of_length_eq_zero (by omega)
    rw [this, List.take_zero]
    exact Int.le_refl _
  | d :: ds, s, u + 1, pw, ns, sub, l => by
    obtain ⟨p1, p2⟩ := List.pairwise_cons.mp pw
    rw [List.take_succ_cons, vsum_cons]
    by_cases hd : d ∈ s
    · have pe := List.perm_cons_erase hd
      rw [vsum_perm pe, vsum_cons]
      have := top_sum nn (ds := ds) (s := s.erase d) (u := u) p2 (ns.erase d) (fun x hx => by
        have h1 := (ns.mem_erase_iff).mp hx
        rcases List.mem_cons.mp (sub x h1.2) with e | e
        · exact absurd e h1.1
        · exact e) (by
        have := pe.length_eq
        rw [List.length_cons] at this
        omega)
      omega
    · have sub' : ∀ x ∈ s, x ∈ ds := fun x hx => by
        rcases List.mem_cons.mp (sub x hx) with e | e
        · exact absurd (e ▸ hx) hd
        · exact e
      cases s with
      | nil =>
        have h1 := vt_nn nn d
        have h2 := vsum_nn nn (ds.take u)
        show (0 : Int) ≤ _
        omega
      | cons x s =>
        have h1 := p1 x (sub' x List.mem_cons_self)
        have h2 := top_sum nn (ds := ds) (s := s) (u := u) p2 (List.nodup_cons.mp ns).2 (fun y hy => sub' y (List.mem_cons_of_mem _ hy)) (by
          rw [List.length_cons] at l
          omega)
        rw [vsum_cons]
        omega
theorem sub_sum {v : Z} (nn : ∀ x ∈ v, 0 ≤ x) : ∀ {ds s : Z}, s.Nodup → (∀ x ∈ s, x ∈ ds) → vsum v s ≤ vsum v ds
  | [], s, _, sub => by
    have : s = [] := by
      cases s with
      | nil => rfl
      | cons x s => exact absurd (sub x List.mem_cons_self) List.not_mem_nil
    rw [this]
    exact Int.le_refl _
  | d :: ds, s, ns, sub => by
    rw [vsum_cons]
    by_cases hd : d ∈ s
    · have pe := List.perm_cons_erase hd
      rw [vsum_perm pe, vsum_cons]
      have := sub_sum nn (ds := ds) (s := s.erase d) (ns.erase d) (fun x hx => by
        have h1 := (ns.mem_erase_iff).mp hx
        rcases List.mem_cons.mp (sub x h1.2) with e | e
        · exact absurd e h1.1
        · exact e)
      omega
    · have := sub_sum nn (ds := ds) (s := s) ns (fun x hx => by
        rcases List.mem_cons.mp (sub x hx) with e | e
        · exact absurd (e ▸ hx) hd
        · exact e)
      have := vt_nn nn d
      omega
def rgN (n : Nat) : Z := (List.range n).map fun i : Nat => 0 + (i : Int)
theorem rgN_sum (v : Z) : vsum v (rgN v.length) = v.sum := by
  unfold vsum rgN
  rw [List.map_map]
  refine congrArg List.sum (List.ext_getElem (by simp) fun i h1 h2 => ?_)
  simp only [List.getElem_map, List.getElem_range, Function.comp]
  unfold vt
  rw [show ((0 : Int) + (i : Int)).toNat = i by omega, List.getD_eq_getElem?_getD, List.getElem?_eq_getElem h2]
  rfl
theorem vsum_split (v a b : Z) : vsum v a = vsum v (cap a b) + vsum v (wo a b) := by
  induction a with
  | nil => rfl
  | cons x a ih =>
    unfold cap wo at *
    rw [List.filter_cons, List.filter_cons, vsum_cons, ih]
    cases has b x
    · simp only [Bool.not_false, if_true, vsum_cons]
      rw [if_neg (by decide)]
      omega
    · simp only [Bool.not_true, if_true, vsum_cons]
      rw [if_neg (by decide)]
      omega
theorem Lot.nodup {n : Int} {l : Z} (h : Lot n l) : l.Nodup := h.1.imp fun h => by omega
/-- a lot that is enough meets a write lot in more than so many -/
theorem meets_ok {v E W : Z} {need : Int} {u : Nat} (nn : ∀ x ∈ v, 0 ≤ x) (hE : Lot v.length E) (hW : Lot v.length W) (he : enoughP v need u E = true) (hw : writeP v need W = true) : u < (cap E W).length := by
  apply Decidable.byContradiction
  intro hn
  have he := of_decide_eq_true he
  have hw := of_decide_eq_true hw
  unfold sureP at he
  have nc : (cap E W).Nodup := hE.nodup.sublist (cap_sub _ _)
  have h1 : vsum v (cap E W) ≤ vsum v (heavy v u E) := top_sum nn (sorted_V v E) nc (fun x hx => (List.mergeSort_perm E (leV v)).mem_iff.mpr ((cap_sub E W).subset hx)) (by omega)
  have h2 := vsum_split v E W
  have h3 : vsum v (W ++ wo E W) ≤ vsum v (rgN v.length) := sub_sum nn (by
    rw [List.nodup_append]
    refine ⟨hW.nodup, hE.nodup.sublist (wo_sub _ _), fun x hx y hy e => ?_⟩
    subst e
    have := (List.mem_filter.mp hy).2
    rw [has_iff.mpr hx] at this
    cases this) (fun x hx => by
    have hb : 0 ≤ x ∧ x < v.length := by
      rcases List.mem_append.mp hx with h | h
      · exact hW.2 x h
      · exact hE.2 x ((wo_sub _ _).subset h)
    unfold rgN
    refine List.mem_map.mpr ⟨x.toNat, List.mem_range.mpr (by omega), by omega⟩)
  rw [rgN_sum, vsum_app] at h3
  omega
/-! ### equal data -/
theorem eqv_ints : ∀ a b : Z, PyData.eqvAll (a.map .int) (b.map .int) = decide (a = b)
  | [], [] => by simp [PyData.eqvAll]
  | [], _ :: _ => by simp [PyData.eqvAll]
  | _ :: _, [] => by simp [PyData.eqvAll]
  | x :: a, y :: b => by
    rw [List.map_cons, List.map_cons]; skip
    unfold PyData.eqvAll
    rw [eqv_ints a b]
    show ((x == y) && decide (a = b)) = _
    by_cases h1 : x = y <;> by_cases h2 : a = b <;> simp [h1, h2]
def datZ (l : Z) : PyData := .tuple (l.map .int)
def datZs (ls : List Z) : PyData := .list (ls.map datZ)
theorem eqv_Z (a b : Z) : PyData.eqv (datZ a) (datZ b) = decide (a = b) := eqv_ints a b
theorem eqv_Zs : ∀ as bs : List Z, PyData.eqvAll (as.map datZ) (bs.map datZ) = decide (as = bs)
  | [], [] => by simp [PyData.eqvAll]
  | [], _ :: _ => by simp [PyData.eqvAll]
  | _ :: _, [] => by simp [PyData.eqvAll]
  | x :: a, y :: b => by
    rw [List.map_cons, List.map_cons]; skip
    unfold PyData.eqvAll
    rw [eqv_Zs a b, eqv_Z]
    by_cases h1 : x = y <;> by_cases h2 : a = b <;> simp [h1, h2]
theorem lay_ints : ∀ a : Z, PyData.canLayAll0 (a.map .int) = true
  | [] => by simp [PyData.canLayAll0]
  | x :: a => by simp [PyData.canLayAll0, PyData.canLay0, lay_ints a]
theorem shaped_Z (a : Z) : SeqAt.shaped (datZ a) = true := by
  unfold SeqAt.shaped datZ
  rw [PyData.canLay0, lay_ints, PyData.depth, dep_ints]
  decide
theorem lay_Zs : ∀ as : List Z, PyData.canLayAll0 (as.map datZ) = true
  | [] => by simp [PyData.canLayAll0]
  | x :: as => by
    rw [List.map_cons]
    unfold PyData.canLayAll0
    rw [lay_Zs as, show PyData.canLay0 (datZ x) = true from by unfold datZ; rw [PyData.canLay0]; exact lay_ints x]
    rfl
theorem dep_Zs : ∀ as : List Z, PyData.depthAll (as.map datZ) ≤ 1
  | [] => by simp [PyData.depthAll]
  | x :: as => by
    have h := dep_Zs as
    have h2 : (datZ x).depth ≤ 1 := by
      unfold datZ
      rw [PyData.depth, dep_ints]
      omega
    rw [List.map_cons]
    unfold PyData.depthAll
    omega
theorem shaped_Zs (as : List Z) : SeqAt.shaped (datZs as) = true := by
  unfold SeqAt.shaped datZs
  rw [PyData.canLay0, lay_Zs, PyData.depth, Bool.true_and]
  have := dep_Zs as
  exact decide_eq_true (by omega); skip
/-! ### by size, then ascending -/
def encZ (l : Z) : PyData := .tuple (l.map .int)
def leE : Z → Z → Bool := dataLe false encZ
theorem leE_iff {a b : Z} : leE a b = true ↔ ¬ b < a := by
  have e : leE a b = !decide (b < a) := by
    show (!dataLt (encZ b) (encZ a)) = _
    unfold encZ
    rw [dataLt_tuple]
    exact congrArg (!·) (dataLt_ints b a)
  rw [e]
  simp
theorem leE_total : ∀ a b : Z, (leE a b || leE b a) = true := fun a b => by
  rw [Bool.or_eq_true]
  exact (sortLe_total (PyProof.Rows.listOrd PyProof.Rows.itemOrd) false fun b : Z => keyToks (encZ b)).total a b
theorem leE_trans : ∀ a b c : Z, leE a b = true → leE b c = true → leE a c = true := (sortLe_total (PyProof.Rows.listOrd PyProof.Rows.itemOrd) false fun b : Z => keyToks (encZ b)).trans
theorem leE_anti {a b : Z} (h1 : leE a b = true) (h2 : leE b a = true) : a = b := by
  have h1 := leE_iff.mp h1
  have h2 := leE_iff.mp h2
  exact List.le_antisymm (List.not_lt.mp h1) (List.not_lt.mp h2)
theorem leZ_iff {a b : Z} : leZ a b = true ↔ a.length < b.length ∨ (a.length = b.length ∧ leE a b = true) := by
  have e : leZ a b = !dataLt (keyZ b) (keyZ a) := rfl
  have e2 : leE a b = !dataLt (encZ b) (encZ a) := rfl
  rw [e, e2]
  unfold keyZ encZ
  rw [dataLt_pair (by simp [alike]) (by simp [alike, alike_ints])]
  have ex : PyData.eqv (.tuple (b.map .int)) (.tuple (a.map .int)) = decide (b = a) := eqv_ints b a
  rw [ex]
  simp only [PyData.eqv, beq_iff_eq, dataLt_int, decide_eq_true_eq]
  by_cases e : (b.length : Int) = a.length
  · rw [if_pos e]
    have e' : a.length = b.length := by omega
    by_cases e3 : b = a
    · subst e3
      have : dataLt (.tuple (b.map .int)) (.tuple (b.map .int)) = false := by
        rw [dataLt_tuple]
        exact (dataLt_ints b b).trans (decide_eq_false (List.lt_irrefl b))
      simp [this]
    · simp [e3, e']
  · rw [if_neg e]
    constructor
    · intro h
      rw [Bool.not_eq_true', decide_eq_false_iff_not] at h
      exact .inl (by omega)
    · rintro (h | h)
      · rw [Bool.not_eq_true', decide_eq_false_iff_not]
        omega
      · omega
theorem leZ_anti {a b : Z} (h1 : leZ a b = true) (h2 : leZ b a = true) : a = b := by
  rcases leZ_iff.mp h1 with p | ⟨p1, p2⟩ <;> rcases leZ_iff.mp h2 with q | ⟨q1, q2⟩
  · omega
  · omega
  · omega
  · exact leE_anti p2 q2
def ofLen (ls : List Z) (k : Nat) : List Z := ls.filter fun l => decide (l.length = k)
def inSize (ls : List Z) : List Z := (List.range 6).flatMap fun k => (ofLen ls k).mergeSort leE
theorem flat_perm (ls : List Z) : ∀ n, ((List.range n).flatMap fun k => (ofLen ls k).mergeSort leE).Perm (ls.filter fun l => decide (l.length < n))
  | 0 => by simp
  | n + 1 => by
    rw [List.range_succ, List.flatMap_append]
    refine ((flat_perm ls n).append (show (List.flatMap (fun k => (ofLen ls k).mergeSort leE) [n]).Perm (ofLen ls n) from ?_)).trans ?_
    · rw [List.flatMap_singleton]
      exact List.mergeSort_perm _ _
    · refine List.Perm.trans ?_ (List.filter_append_perm (fun l : Z => decide (l.length < n)) (ls.filter fun l => decide (l.length < n + 1)))
      unfold ofLen
      rw [List.filter_filter, List.filter_filter]
      refine List.Perm.append (.of_eq ?_) (.of_eq ?_)
      · refine List.filter_congr fun l _ => ?_
        rw [Bool.eq_iff_iff, Bool.and_eq_true, decide_eq_true_iff, decide_eq_true_iff]
        omega
      · refine List.filter_congr fun l _ => ?_
        rw [Bool.eq_iff_iff, Bool.and_eq_true, Bool.not_eq_true', decide_eq_false_iff_not, decide_eq_true_iff, decide_eq_true_iff]
        omega
theorem inSize_perm {ls : List Z} (h : ∀ l ∈ ls, l.length ≤ 5) : (inSize ls).Perm ls := by
  refine (flat_perm ls 6).trans (.of_eq (List.filter_eq_self.mpr fun l hl => decide_eq_true ?_))
  have := h l hl
  omega
theorem inSize_sorted (ls : List Z) : (inSize ls).Pairwise fun a b => leZ a b = true := by
  unfold inSize
  rw [List.pairwise_flatMap]
  have mem : ∀ {k : Nat} {l : Z}, l ∈ (ofLen ls k).mergeSort leE → l.length = k := fun {k l} h => of_decide_eq_true (List.mem_filter.mp ((List.mergeSort_perm _ _).mem_iff.mp h)).2
  refine ⟨fun k _ => ?_, (List.pairwise_lt_range (n := 6)).imp fun {i j} h a ha b hb => ?_⟩
  · have p := List.pairwise_mergeSort leE_trans leE_total (ofLen ls k)
    refine p.imp_of_mem fun {a b} ha hb h => leZ_iff.mpr (.inr ⟨?_, h⟩)
    rw [mem ha, mem hb]
  · refine leZ_iff.mpr (.inl ?_)
    rw [mem ha, mem hb]
    exact h
/-- picked out of the sorted, or sorted when picked -/
theorem inSize_parts {u : Z} (h : u.length ≤ 5) (p : Z → Bool) : (parts u).filter p = inSize ((subs u).filter p) := by
  refine List.Perm.eq_of_pairwise (le := fun a b => leZ a b = true) (fun a b _ _ => leZ_anti) ?_ (inSize_sorted _) ?_
  · exact (List.pairwise_mergeSort leZ_trans leZ_total (subs u)).sublist List.filter_sublist
  · refine ((parts_perm u).filter p).trans (inSize_perm fun l hl => ?_).symm
    have := (mem_subs.mp (List.mem_filter.mp hl).1).length_le
    omega
end Pl

namespace Pl
open L2 PySem PySem.Spec PyProof.Rows
/-! ### the text by places -/
def top (i : Nat) : Stmt := PySem.Challenge.pw_plainstore_k15_whole_votes_by_all_lots.main.body.getD i (.Pass ⟨0, 0, 0, 0⟩)
abbrev sIsNumber : Stmt := top 17
abbrev sIsWithin : Stmt := top 18
abbrev sIsLot : Stmt := top 21
abbrev sCkLot : Stmt := top 22
abbrev sAllLots : Stmt := top 23
abbrev sIsVotes : Stmt := top 26
abbrev sIsWrite : Stmt := top 27
abbrev sIsEnough : Stmt := top 28
abbrev sEnoughs : Stmt := top 29
abbrev sWrites : Stmt := top 30
abbrev sCkVotes : Stmt := top 31
abbrev sCkUnruly : Stmt := top 32
abbrev sVotesOf : Stmt := top 33
abbrev sLotsOf : Stmt := top 34
abbrev sHeavy : Stmt := top 35
abbrev sSure : Stmt := top 36
abbrev sHasEn : Stmt := top 37
abbrev sPool : Stmt := top 39
abbrev sTake : Stmt := top 40
abbrev sOne : Stmt := top 41
abbrev sRounds : Stmt := top 42
abbrev sLAll : Stmt := top 43
abbrev sInSize : Stmt := top 44
abbrev sCaught : Stmt := top 45
abbrev sLVotes : Stmt := top 46
abbrev sLSum : Stmt := top 47
abbrev sLSure : Stmt := top 48
abbrev sLEnough : Stmt := top 49
abbrev sCase : Stmt := top 50
abbrev sMeets : Stmt := top 51
abbrev sRefused : Stmt := top 52
abbrev sLaw : Stmt := top 53
/-- what the top has left of constants and built-ins -/
structure Cst (mg : Str → Option Value) : Prop where
  isi : mg "isinstance" = none
  len : mg "len" = none
  tint : mg "int" = none
  tbool : mg "bool" = none
  tlst : mg "list" = none
  ttup : mg "tuple" = none
  tset : mg "set" = none
  rng : mg "range" = none
  max_ : mg "max" = none
  min_ : mg "min" = none
  rpr : mg "repr" = none
  enum : mg "enumerate" = none
  srt : mg "sorted" = none
  all_ : mg "all" = none
  any_ : mg "any" = none
  zip_ : mg "zip" = none
  copies : ∃ t, mg "MOST_COPIES" = some (.int 5 t)
  votes : ∃ t, mg "MOST_VOTES" = some (.int 9 t)
  sum_ : mg "sum" = none
/-- a def of the text as its callers see it -/
structure Df (P : Program) (w : World) (K : PySem.W.Frag) (mg : Str → Option Value) (base : Heap) (k : Nat) (x : Str) (ps : List Str) (sp : Sp) : Prop where
  ex : ∃ (f : Addr) (fd : FuncData), FnOk P w K mg base CX0 k f fd ps sp ∧ mg x = some (.ref f) ∧ PySem.W.keepIn K (.ref f) = true ∧ Binds K fd ps []
/-- one that may raise -/
structure DfX (P : Program) (w : World) (K : PySem.W.Frag) (mg : Str → Option Value) (base : Heap) (k : Nat) (x : Str) (ps : List Str) (sp : Sp) : Prop where
  ex : ∃ (f : Addr) (fd : FuncData), FnOk P w K mg base (L2.CX P w) k f fd ps sp ∧ mg x = some (.ref f) ∧ PySem.W.keepIn K (.ref f) = true ∧ Binds K fd ps []
/-- a flat value and what it is -/
inductive Fl : V → PyData → Prop
  | non : Fl .non .none
  | bl (b : Bool) : Fl (.bl b) (.bool b)
  | int (i : Int) : Fl (.int i) (.int i)
  | str (x : Str) : Fl (.str x) (.str x)
theorem Fl.dv {v : V} {d : PyData} {m : Bool} {z : Addr} {H : Hp} {k : Bool} (h : Fl v d) : Dv m z H k v d := by
  cases h with
  | non => exact .non
  | bl b => exact .bl b
  | int i => exact .int i
  | str x => exact .str x
def kindOf : PyData → String
  | .none => "NoneType"
  | .bool _ => "bool"
  | .int _ => "int"
  | _ => "str"
theorem Fl.ty {K : PySem.W.Frag} {H : Hp} {v : V} {d : PyData} (h : Fl v d) : TyX K H v (.type (kindOf d)) := by
  cases h with
  | non => exact .base .non
  | bl b => exact .base (.bl b)
  | int i => exact .base (.int i)
  | str x => exact .base (.str x)
def isIB : PyData → Bool
  | .int _ => true
  | .bool _ => true
  | _ => false
theorem kit_int {K : PySem.W.Frag} {v : V} {d : PyData} (h : Fl v d) : PySem.W.kitOne K (.type (kindOf d)) (.type "int") = some (isIB d) := by
  cases h with
  | non => exact kit_ty (show kitB "NoneType" "int" = some false from by decide +kernel)
  | bl b => exact kit_ty (show kitB "bool" "int" = some true from by decide +kernel)
  | int i => exact kit_ty (show kitB "int" "int" = some true from by decide +kernel)
  | str x => exact kit_ty (show kitB "str" "int" = some false from by decide +kernel)
def isB : PyData → Bool
  | .bool _ => true
  | _ => false
theorem kit_bool {K : PySem.W.Frag} {v : V} {d : PyData} (h : Fl v d) : PySem.W.kitOne K (.type (kindOf d)) (.type "bool") = some (isB d) := by
  cases h with
  | non => exact kit_ty (show kitB "NoneType" "bool" = some false from by decide +kernel)
  | bl b => exact kit_ty (show kitB "bool" "bool" = some true from by decide +kernel)
  | int i => exact kit_ty (show kitB "int" "bool" = some false from by decide +kernel)
  | str x => exact kit_ty (show kitB "str" "bool" = some false from by decide +kernel)
def isNum : PyData → Bool
  | .int _ => true
  | _ => false
def within (d : PyData) (lo hi : Int) : Bool := match d with
  | .int i => decide (lo ≤ i) && decide (i ≤ hi)
  | _ => false
theorem within_no {d : PyData} {lo hi : Int} (h : isNum d = false) : within d lo hi = false := by
  cases d <;> first | rfl | cases h
theorem within_inv {v : V} {d : PyData} {lo hi : Int} (f : Fl v d) (h : within d lo hi = true) : ∃ i, v = .int i ∧ d = .int i ∧ lo ≤ i ∧ i ≤ hi := by
  cases f with
  | int i =>
    have h' : (decide (lo ≤ i) && decide (i ≤ hi)) = true := h
    rw [Bool.and_eq_true, decide_eq_true_eq, decide_eq_true_eq] at h'
    exact ⟨i, rfl, rfl, h'.1, h'.2⟩
  | non => cases h
  | bl b => cases h
  | str x => cases h
/-- a flat value, or a tuple -/
inductive Nv (H : Hp) : V → PyData → Prop
  | fl {v : V} {d : PyData} (h : Fl v d) : Nv H v d
  | tup {a : Addr} {xs : List V} {ds : List PyData} (h : H a = some (.tup xs)) : Nv H (.ref a) (.tuple ds)
theorem Nv.same {H G : Hp} {v : V} {d : PyData} (h : Nv H v d) (s : Same H G) : Nv G v d := by
  cases h with
  | fl h => exact .fl h
  | tup h => exact .tup (s _ _ h)
theorem nv_inv {H : Hp} {v : V} {d : PyData} {lo hi : Int} (f : Nv H v d) (h : within d lo hi = true) : ∃ i, v = .int i ∧ d = .int i ∧ lo ≤ i ∧ i ≤ hi := by
  cases f with
  | fl f => exact within_inv f h
  | tup _ => cases h
def spN : Sp := fun vs H Q _ => ∃ (v : V) (d : PyData), vs = [v] ∧ Nv H v d ∧ Q (.bl (isNum d)) H
def spW : Sp := fun vs H Q _ => ∃ (v : V) (d : PyData) (lo hi : Int), vs = [v, .int lo, .int hi] ∧ Nv H v d ∧ Q (.bl (within d lo hi)) H
section
variable {P : Program} {K : PySem.W.Frag} {w : World} {base : Heap} {mg : Str → Option Value}
theorem scIsNumber : FnScope ["value"] ["value"] (defScope sIsNumber) := ⟨rfl, rfl, rfl, by decide +kernel, rfl, by decide +kernel, by decide +kernel⟩
theorem ok_number {f : Addr} {fd : FuncData} (F : Fun K "is_number" "is_number" sIsNumber f fd) (T : Cst mg) : FnOk P w K mg base CX0 1 f fd ["value"] spN := by
  refine F.ok scIsNumber (fun vs H Q E h => ?_) (fun cdv A outer s H vs Q E hr h => ?_)
  · obtain ⟨v, d, rfl, _⟩ := h
    rfl
  · obtain ⟨v, d, rfl, hd, q⟩ := h
    refine ⟨_, pss_one (ps_ret (pe_and (pe_callB call_isi (by rfl) T.isi (by decide +kernel) (pa_cons (pv 0) (pa_cons (pe_bltn (v := .ty "int") (by rfl) T.tint (by decide +kernel) rfl) pa_nil)))
      (pe_one (pe_not (pe_callB call_isi (by rfl) T.isi (by decide +kernel) (pa_cons (pv 0) (pa_cons (pe_bltn (v := .ty "bool") (by rfl) T.tbool (by decide +kernel) rfl) pa_nil))))))), ?_⟩
    cases hd with
    | tup h => exact ⟨_, rfl, .ref _, _, _, _, _, rfl, .ty _, .base (.tup h), (kit_ty (show kitB "tuple" "int" = some false from by decide +kernel)), _, rfl, iteF q⟩
    | fl hd =>
      refine ⟨_, rfl, v, _, _, _, _, rfl, .ty _, hd.ty, kit_int hd, _, rfl, ?_⟩
      refine ite2 (fun e => ?_) fun e => ?_
      · refine ⟨_, rfl, v, _, _, _, _, rfl, .ty _, hd.ty, kit_bool hd, _, rfl, ?_⟩
        cases hd <;> first | exact q | cases e
      · cases hd <;> first | exact q | exact absurd rfl e
theorem scIsWithin : FnScope ["value", "least", "most"] ["value", "least", "most"] (defScope sIsWithin) := ⟨rfl, rfl, rfl, by decide +kernel, rfl, by decide +kernel, by decide +kernel⟩
theorem ok_within {f : Addr} {fd : FuncData} (F : Fun K "is_within" "is_within" sIsWithin f fd) (D : Df P w K mg base 1 "is_number" ["value"] spN) : FnOk P w K mg base CX0 2 f fd ["value", "least", "most"] spW := by
  obtain ⟨fN, fdN, GN, mN, kN, bN⟩ := D.ex
  refine F.ok scIsWithin (fun vs H Q E h => ?_) (fun cdv A outer s H vs Q E hr h => ?_)
  · obtain ⟨v, d, lo, hi, rfl, _⟩ := h
    rfl
  · obtain ⟨v, d, lo, hi, rfl, hd, q⟩ := h
    refine ⟨_, pss_one (ps_ret (pe_and (pe_call GN hr (by rfl) mN kN bN .nil pass0 (pa_cons (pv 0) pa_nil)) (pe_one (pe_chain op_le op_le (pv 1) (pv 0) (pv 2))))), ?_⟩
    refine ⟨v, rfl, v, d, rfl, hd, ⟨_, rfl, ?_⟩⟩
    refine ite2 (fun e => ?_) fun e => ?_
    · cases hd with
      | tup h => cases e
      | fl hd =>
      cases hd with
      | int i =>
        refine ⟨_, rfl, _, rfl, _, _, rfl, rfl, _, rfl, ?_⟩; skip
        have q2 : Q (.bl (decide (lo ≤ i) && decide (i ≤ hi))) H := q
        refine ite2 (fun e => ?_) fun e => ?_
        · refine ⟨_, rfl, _, _, rfl, rfl, ?_⟩
          rw [show decide (lo ≤ i) = true from e, Bool.true_and] at q2
          exact q2
        · rw [show decide (lo ≤ i) = false from Bool.eq_false_iff.mpr e, Bool.false_and] at q2
          exact q2
      | non => cases e
      | bl b => cases e
      | str x => cases e
    · rw [within_no (Bool.eq_false_iff.mpr e)] at q
      exact q
end
/-- what the written part says of an error's class: C, called x, made by the def at fI -/
structure ErrT (K : PySem.W.Frag) (mg : Str → Option Value) (x : Str) (C fI : Addr) : Prop where
  ox : OexC K C
  gC : mg x = some (.ref C)
  iC : PySem.W.findIn K (.ref C) "__init__" = some (some (.ref fI))
  tI : PySem.W.typeIn K (.ref fI) = some (.type "function")
  no : PySem.W.findIn K (.ref C) "told" = some none
def spInit (K : PySem.W.Frag) : Sp := fun vs H Q _ => ∃ (a C : Addr) (y : V), vs = [.ref a, y] ∧ OexC K C ∧ PySem.W.findIn K (.ref C) "told" = some none ∧ H a = some (exo a C none) ∧ ∀ dx, H dx = none → dx ≠ a → Q .non (upd (upd H dx (exd dx [("told", y)])) a (exo a C (some dx)))
/-- how the class is made, as the raising defs see it -/
structure Mak (P : Program) (w : World) (K : PySem.W.Frag) (mg : Str → Option Value) (base : Heap) (x : Str) (C : Addr) : Prop where
  ex : ∃ (fI : Addr) (fd : FuncData), ErrT K mg x C fI ∧ FnOk P w K mg base CX0 1 fI fd ["self", "told"] (spInit K) ∧ Binds K fd ["self", "told"] []
/-- C(v) leaves -/
def Rais (C : Addr) (v : V) (H : Hp) (E : XK) : Prop := ∀ (d : Addr) (H' : Hp), Same H H' → H' d = some (.xd [("told", v)]) → E (.ref C) (some d) H'
theorem Rais.same {C : Addr} {v : V} {H G : Hp} {E : XK} (r : Rais C v H E) (s : Same H G) : Rais C v G E := fun d H' s' h => r d H' (s.trans s') h
/-- raise C(e), where e reads as v -/
theorem raised {K : PySem.W.Frag} {C : Addr} {v : V} {σ : L2.St} {H : Hp} {E : XK} {ta : TA} (ox : OexC K C) (no : PySem.W.findIn K (.ref C) "told" = some none) (h : ∀ k : List V → Hp → Prop, k [v] H → ta σ H k) (q : Rais C v H E) : tMkO C (spInit K) [] ta σ H E := by
  refine h _ ⟨by simp, fun a ha => ?_⟩
  refine ⟨a, C, v, rfl, ox, no, upd_same, fun dx hdx ne => ⟨rfl, dx, [(("told" : Str), v)], upd_same, ?_, ?_, ?_⟩⟩
  · rw [upd_ne ne, upd_same]
  · rw [upd_ne ne] at hdx
    exact hdx
  · have hdG : H dx = none := by
      rw [upd_ne ne] at hdx
      exact hdx
    refine q dx _ (fun b o hb => ?_) upd_same
    have n1 : b ≠ dx := ne_of_none hb hdG
    have n2 : b ≠ a := ne_of_none hb ha
    rw [upd_ne n1, del_ne n2, upd_ne n2, upd_ne n1, upd_ne n2]
    exact hb
theorem raised_v {K : PySem.W.Frag} {C : Addr} {v : V} {i : Nat} {σ : L2.St} {H : Hp} {E : XK} (ox : OexC K C) (no : PySem.W.findIn K (.ref C) "told" = some none) (hv : σ[i]? = some (some v)) (q : Rais C v H E) : tMkO C (spInit K) [] (tCons (tVar i) tNil) σ H E :=
  raised ox no (fun k hk => ⟨v, hv, hk⟩) q
theorem raised_c {K : PySem.W.Frag} {C : Addr} {v : V} {σ : L2.St} {H : Hp} {E : XK} (ox : OexC K C) (no : PySem.W.findIn K (.ref C) "told" = some none) (q : Rais C v H E) : tMkO C (spInit K) [] (tCons (tC v) tNil) σ H E :=
  raised ox no (fun k hk => hk) q
section
variable {P : Program} {K : PySem.W.Frag} {w : World} {base : Heap} {mg : Str → Option Value} {C C2 C3 : Addr}
theorem scInit7 : FnScope ["self", "told"] ["self", "told"] (defScope (inClass (top 7) 0)) := ⟨rfl, rfl, rfl, by decide +kernel, rfl, by decide +kernel, by decide +kernel⟩
theorem ok_init7 {f : Addr} {fd : FuncData} (F : Fun K "__init__" "NoCount.__init__" (inClass (top 7) 0) f fd) : FnOk P w K mg base CX0 1 f fd ["self", "told"] (spInit K) := by
  refine F.ok scInit7 (fun vs H Q E h => ?_) (fun cdv A outer s H vs Q E hr h => ?_)
  · obtain ⟨a, C, y, rfl, _⟩ := h
    rfl
  · obtain ⟨a, C, y, rfl, T, no, ha, q⟩ := h
    exact ⟨_, pss_one (ps_ost (pv 0) (pv 1)), y, rfl, .ref a, rfl, a, C, rfl, T, no, .inl ⟨ha, q⟩⟩
theorem scInit9 : FnScope ["self", "told"] ["self", "told"] (defScope (inClass (top 9) 0)) := ⟨rfl, rfl, rfl, by decide +kernel, rfl, by decide +kernel, by decide +kernel⟩
theorem ok_init9 {f : Addr} {fd : FuncData} (F : Fun K "__init__" "NoLot.__init__" (inClass (top 9) 0) f fd) : FnOk P w K mg base CX0 1 f fd ["self", "told"] (spInit K) := by
  refine F.ok scInit9 (fun vs H Q E h => ?_) (fun cdv A outer s H vs Q E hr h => ?_)
  · obtain ⟨a, C, y, rfl, _⟩ := h
    rfl
  · obtain ⟨a, C, y, rfl, T, no, ha, q⟩ := h
    exact ⟨_, pss_one (ps_ost (pv 0) (pv 1)), y, rfl, .ref a, rfl, a, C, rfl, T, no, .inl ⟨ha, q⟩⟩
theorem scInit10 : FnScope ["self", "told"] ["self", "told"] (defScope (inClass (top 10) 0)) := ⟨rfl, rfl, rfl, by decide +kernel, rfl, by decide +kernel, by decide +kernel⟩
theorem ok_init10 {f : Addr} {fd : FuncData} (F : Fun K "__init__" "NoVotes.__init__" (inClass (top 10) 0) f fd) : FnOk P w K mg base CX0 1 f fd ["self", "told"] (spInit K) := by
  refine F.ok scInit10 (fun vs H Q E h => ?_) (fun cdv A outer s H vs Q E hr h => ?_)
  · obtain ⟨a, C, y, rfl, _⟩ := h
    rfl
  · obtain ⟨a, C, y, rfl, T, no, ha, q⟩ := h
    exact ⟨_, pss_one (ps_ost (pv 0) (pv 1)), y, rfl, .ref a, rfl, a, C, rfl, T, no, .inl ⟨ha, q⟩⟩
theorem scInit11 : FnScope ["self", "told"] ["self", "told"] (defScope (inClass (top 11) 0)) := ⟨rfl, rfl, rfl, by decide +kernel, rfl, by decide +kernel, by decide +kernel⟩
theorem ok_init11 {f : Addr} {fd : FuncData} (F : Fun K "__init__" "NoNeed.__init__" (inClass (top 11) 0) f fd) : FnOk P w K mg base CX0 1 f fd ["self", "told"] (spInit K) := by
  refine F.ok scInit11 (fun vs H Q E h => ?_) (fun cdv A outer s H vs Q E hr h => ?_)
  · obtain ⟨a, C, y, rfl, _⟩ := h
    rfl
  · obtain ⟨a, C, y, rfl, T, no, ha, q⟩ := h
    exact ⟨_, pss_one (ps_ost (pv 0) (pv 1)), y, rfl, .ref a, rfl, a, C, rfl, T, no, .inl ⟨ha, q⟩⟩
theorem within_yes {i lo hi : Int} (a : lo ≤ i) (b : i ≤ hi) : within (.int i) lo hi = true := by
  show (decide (lo ≤ i) && decide (i ≤ hi)) = true
  rw [decide_eq_true a, decide_eq_true b]
  rfl
end
end Pl

namespace Pl
open L2 PySem PySem.Spec PyProof.Rows RZ
theorem same_up {p : Addr} {H : Hp} {o : HO} (f : H p = none) : Same H (L2.upd H p o) := fun b u e => (upd_ne (ne_of_none e f)).trans e
theorem Same.free' {H G : Hp} {p : Addr} (s : Same H G) (f : G p = none) : H p = none := s.free f
theorem take_next1 {α : Type} {xs : List α} {i : Nat} {x : α} (h : xs[i]? = some x) : xs.take (i + 1) = xs.take i ++ [x] := by
  rw [List.take_add_one, h]
  rfl
theorem zV_get {xs : Z} {i : Nat} {y : V} (h : (xs.map V.int)[i]? = some y) : ∃ x, xs[i]? = some x ∧ y = .int x := by
  rw [List.getElem?_map] at h
  cases e : xs[i]? with
  | none =>
    rw [e] at h
    cases h
  | some x =>
    rw [e] at h
    exact ⟨x, rfl, (Option.some.inj h).symm⟩
theorem flatZ (ys : Z) : (ys.map V.int).all flatV = true := by
  rw [List.all_eq_true]
  intro v hv
  obtain ⟨y, _, rfl⟩ := List.mem_map.mp hv; skip
  rfl
theorem inZ (x : Int) : ∀ ys : Z, inV (.int x) (ys.map V.int) = has ys x
  | [] => by simp [inV, has]
  | y :: ys => by
    have ih := inZ x ys
    unfold inV has at *
    rw [List.map_cons, List.any_cons, ih]
    have e : eqV (V.int y) (V.int x) = decide (y = x) := by
      show (y == x) = decide (y = x)
      by_cases h : y = x <;> simp [h]
    rw [e]
    by_cases h : y = x
    · subst h
      simp
    · by_cases h2 : x ∈ ys
      · simp [h, h2]
      · have h3 : ¬ x = y := fun z => h z.symm
        simp [h, h2, h3]
theorem walk_core {J : It} {n : Nat} {G : Hp → Prop} {Y : Nat → Hp → V → Hp → Prop} (w : L2.Walk J n G Y) {Body : (Hp → Prop) → V → Hp → Prop} {H0 : Hp} {Qd : Hp → Prop} (Pv : Nat → Hp → Prop) (h0 : Pv 0 H0) (hG : ∀ i H, i ≤ n → Pv i H → G H)
    (hs : ∀ i x H H', i < n → Pv i H → Y i H x H' → Body (Pv (i + 1)) x H') (hd : ∀ H, Pv n H → Qd H) :
    ∃ W : Nat → Nat → Hp → Prop, (∃ m, W 0 m H0) ∧ ∀ i m H, W i m H →
      (J.stop i H ∧ Qd H) ∨ (J.go i H ∧ ∃ Nx : Hp → Prop, (∀ H', Nx H' → ∃ m', m' < m ∧ W (i + 1) m' H') ∧ ∀ x H', J.yld i H x H' → Body Nx x H') := by
  refine ⟨fun i m H => m = n - i ∧ i ≤ n ∧ Pv i H, ⟨n, rfl, Nat.zero_le _, h0⟩, ?_⟩
  rintro i m H ⟨rfl, hi, p⟩
  have q := hG i H hi p
  by_cases hlt : i < n
  · exact .inr ⟨w.goes i H hlt q, Pv (i + 1), fun H' p' => ⟨n - (i + 1), Nat.sub_lt_sub_left hlt (Nat.lt_succ_self i), rfl, hlt, p'⟩, fun x H' y => hs i x H H' hlt p (w.yields i H x H' hlt q y)⟩
  · obtain rfl : i = n := by omega
    exact .inl ⟨w.stops H q, hd H p⟩; skip
theorem seq_by {t1 t2 : TS} {D : Ends} {σ : L2.St} {H : Hp} (Mid : L2.St → Hp → Prop) (h2 : ∀ σ' H', Mid σ' H' → t2 D σ' H') (h1 : (∀ σ' H', Mid σ' H' → t2 D σ' H') → t1 { D with nx := t2 D } σ H) : tSeq t1 t2 D σ H := h1 h2
theorem walk_zipT {K : PySem.W.Frag} {a b : Addr} {xs ys : List V} (h : ys.length ≤ xs.length) : L2.Walk (ItzT K a b) ys.length (fun H => SqT K H a xs ∧ SqT K H b ys) (YPair (fun i => xs[i]?) (fun i => ys[i]?)) := by
  refine ⟨fun i H hi q => ⟨xs, ys, xs[i]'(by omega), ys[i], q.1, q.2, by simp [show i < xs.length by omega], by simp [hi]⟩, fun H q => ⟨xs, ys, q.1, q.2, .inr (Nat.le_refl _)⟩, ?_⟩
  rintro i H v H' hi q ⟨T, x, y, h1, h2, h3, h4, h5⟩
  exact ⟨T, x, y, h1, h2, h3, h4 xs q.1, h5 ys q.2⟩
/-- a turn of [.. for .. in .. if p]: what it told so far lies at D -/
theorem lc_yes {H G : Hp} {D : Addr} {acc : List V} {v : V} {R : Hp → Prop} (hD : H D = none) (s : Same H G) (h : G D = some (.lst acc)) (l : acc.length ≤ 1000) (q : ∀ G', Same H G' → G' D = some (.lst (acc ++ [v])) → R G') : ∃ ac, G D = some (.lst ac) ∧ ac.length < sizeLine ∧ R (upd G D (.lst (ac ++ [v]))) :=
  ⟨_, h, small1000 l, q _ (fun b o hb => by
    rw [upd_ne (ne_of_none hb hD)]
    exact s b o hb) upd_same⟩
theorem sup {H G : Hp} {D : Addr} {o : HO} (hD : H D = none) (s : Same H G) : Same H (upd G D o) := fun b u hb => by
  rw [upd_ne (ne_of_none hb hD)]
  exact s b u hb
theorem noPart {σ : L2.St} {H : Hp} {Q : Option Int → Hp → Prop} (h : Q none H) : tNoPart σ H Q := h
theorem sl_any {K : PySem.W.Frag} {H : Hp} {a : Addr} {xs : List V} {lo hi : Option Int} {Q : VK} (h : H a = some (.tup xs)) (q : ∀ p H', Same H H' → H' p = some (.tup (cutV xs lo hi)) → Q (.ref p) H') : rSlA K (.ref a) lo hi H Q := by
  refine ⟨a, xs, rfl, SqT.of h, fun w => q a H (fun _ _ e => e) ?_, fun w p hp => q p _ (same_up hp) upd_same⟩
  unfold cutV
  rw [w.1, w.2, List.drop_zero, Nat.sub_zero, List.take_length]
  exact h
theorem cut_tail (xs : List V) : cutV xs (some 1) none = xs.drop 1 := by
  unfold cutV
  rw [HT.sIx_none, show HT.sIx xs.length 0 (some 1) = min 1 xs.length from HT.sIx_nat xs.length 0 1]
  by_cases h : xs = []
  · subst h
    rfl
  · have : 1 ≤ xs.length := by
      have := List.length_pos_iff.mpr h
      omega
    rw [Nat.min_eq_left this, List.take_of_length_le]
    rw [List.length_drop]
    exact Nat.le_refl _
theorem filt_snoc {α : Type} {xs : List α} {i : Nat} {x : α} (h : xs[i]? = some x) (p : α → Bool) : (xs.take (i + 1)).filter p = (xs.take i).filter p ++ (if p x = true then [x] else []) := by
  rw [take_next1 h, List.filter_append, List.filter_cons]
  by_cases e : p x = true
  · rw [if_pos e, if_pos e]
    rfl
  · rw [if_neg e, if_neg e]
    rfl
theorem filt_len {α : Type} (xs : List α) (i : Nat) (p : α → Bool) : ((xs.take i).filter p).length ≤ xs.length := Nat.le_trans (List.length_filter_le _ _) (by
  rw [List.length_take]
  exact Nat.min_le_right _ _)
inductive FlL : List V → List PyData → Prop
  | nil : FlL [] []
  | cons {v : V} {d : PyData} {vs : List V} {ds : List PyData} (a : Fl v d) (t : FlL vs ds) : FlL (v :: vs) (d :: ds)
theorem FlL.len : ∀ {vs : List V} {ds : List PyData}, FlL vs ds → vs.length = ds.length
  | _, _, .nil => rfl
  | _, _, .cons _ t => congrArg Nat.succ t.len
theorem FlL.at : ∀ {vs : List V} {ds : List PyData} {i : Nat} {v : V}, FlL vs ds → vs[i]? = some v → ∃ d, ds[i]? = some d ∧ Fl v d
  | _, _, _, _, .nil, e => absurd e (by simp)
  | _, _, 0, _, .cons a _, e => by simp at e; subst e; exact ⟨_, rfl, a⟩
  | _, _, i + 1, _, .cons _ t, e => by
    obtain ⟨d, h1, h2⟩ := FlL.at (i := i) t (by simpa using e)
    exact ⟨d, by simpa using h1, h2⟩
theorem FlL.ints : ∀ ns : Z, FlL (ns.map V.int) (ns.map PyData.int)
  | [] => .nil
  | n :: ns => .cons (.int _) (FlL.ints ns)
/-- what is handed in as a lot -/
inductive Tz (K : PySem.W.Frag) (H : Hp) : V → Option (List PyData) → Prop
  | no {v : V} {kd : String} (t : ∀ G, Same H G → TyX K G v (.type kd)) (nt : PySem.W.kitOne K (.type kd) (.type "tuple") = some false) : Tz K H v none
  | tup {a : Addr} {vs : List V} {ds : List PyData} (h : H a = some (.tup vs)) (m : FlL vs ds) (l : vs.length ≤ 100) : Tz K H (.ref a) (some ds)
theorem Tz.same {K : PySem.W.Frag} {H G : Hp} {v : V} {o : Option (List PyData)} (h : Tz K H v o) (s : Same H G) : Tz K G v o := by
  cases h with
  | no t nt => exact .no (fun F x => t F (s.trans x)) nt
  | tup h m l => exact .tup (s _ _ h) m l
theorem Tz.lot {K : PySem.W.Frag} {H : Hp} {a : Addr} {l : Z} (h : H a = some (.tup (l.map V.int))) (n : l.length ≤ 100) : Tz K H (.ref a) (some (l.map PyData.int)) := .tup h (FlL.ints l) (by rw [List.length_map]; exact n)
def toI : PyData → Int
  | .int i => i
  | _ => 0
def asc (ns : Z) : Bool := (List.range (ns.length - 1)).all fun j => decide (ns.getD j 0 < ns.getD (j + 1) 0)
def okT (n : Int) : Option (List PyData) → Bool
  | none => false
  | some ds => (ds.all fun d => within d 0 (n - 1)) && asc (ds.map toI)
theorem okT_lot {n : Int} {l : Z} (h : Lot n l) : okT n (some (l.map PyData.int)) = true := by
  unfold okT
  rw [Bool.and_eq_true]
  constructor
  · rw [List.all_eq_true]
    intro d hd
    obtain ⟨x, hx, rfl⟩ := List.mem_map.mp hd
    have := h.2 x hx
    exact within_yes this.1 (by omega)
  · rw [List.map_map, show (toI ∘ PyData.int) = id from rfl, List.map_id]
    unfold asc
    rw [List.all_eq_true]
    intro j hj
    rw [List.mem_range] at hj
    have h1 : j < l.length := by omega
    have h2 : j + 1 < l.length := by omega
    rw [List.getD_eq_getElem?_getD, List.getD_eq_getElem?_getD, List.getElem?_eq_getElem h1, List.getElem?_eq_getElem h2]
    exact decide_eq_true (List.pairwise_iff_getElem.mp h.1 j (j + 1) h1 h2 (by omega))
def spIsLot (K : PySem.W.Frag) : Sp := fun vs H Q _ => ∃ (v : V) (n : Int) (o : Option (List PyData)), vs = [v, .int n] ∧ Tz K H v o ∧ ∀ H', Same H H' → Q (.bl (okT n o)) H'
def spCkLot (K : PySem.W.Frag) (C : Addr) : Sp := fun vs H Q E => ∃ (v : V) (n : Int) (o : Option (List PyData)), vs = [v, .int n] ∧ Tz K H v o ∧ (okT n o = true → ∀ H', Same H H' → Q .non H') ∧ (okT n o = false → Rais C v H E)
abbrev nIL : List Str := ["value", "count", "copy", "one", "other"]
section
variable {P : Program} {K : PySem.W.Frag} {w : World} {base : Heap} {mg : Str → Option Value} {C : Addr}
theorem scIsLot : FnScope nIL ["value", "count"] (defScope sIsLot) := ⟨rfl, rfl, rfl, by decide +kernel, rfl, by decide +kernel, by decide +kernel⟩
theorem ok_islot {f : Addr} {fd : FuncData} (F : Fun K "is_lot" "is_lot" sIsLot f fd) (T : Cst mg) (D1 : Df P w K mg base 2 "is_within" ["value", "least", "most"] spW) : FnOk P w K mg base CX0 3 f fd ["value", "count"] (spIsLot K) := by
  obtain ⟨e1, fd1, G1, m1, k1, b1⟩ := D1.ex
  refine F.ok scIsLot (fun vs H Q E h => ?_) (fun cdv A outer s0 H vs Q E hr h => ?_)
  · obtain ⟨v, n, o, rfl, _⟩ := h
    rfl
  · obtain ⟨v, n, o, rfl, hz, q⟩ := h
    refine ⟨_, pss_cons (ps_if (PW.pt (pw_or (pt_not (pt_val (pe_callB call_isi (by rfl) T.isi (by decide +kernel) (pa_cons (pv 0) (pa_cons (pe_bltn (v := .ty "tuple") (by rfl) T.ttup (by decide +kernel) rfl) pa_nil)))))
        (pw_or1 (pt_not (pt_val (pe_callB (cr_all rfl) (by rfl) T.all_ (by decide +kernel) (pa_cons (pe_lc (own := [("copy", 2)]) (g := gName 2) (tt := tYes) rfl scIsLot.nd (pi_tup (pv 0)) (blkOk_by (own := [("copy", 2)]) (N := nIL) (sc := defScope sIsLot) (by decide +kernel))
          (fun _ _ _ _ _ => pg_name (i := 2) scIsLot.nd rfl (Or.inl rfl)) (fun _ _ _ _ _ => pts_nil) (fun _ _ _ _ _ => pe_call G1 (hr.mono (by decide)) (by rfl) m1 k1 b1 .nil pass0 (pa_cons (pv 2) (pa_cons pe_int (pa_cons (pe_op op_sub (pv 1) pe_int) pa_nil))))) pa_nil)))))))
        (pss_one (ps_ret pe_bl)) pss_nil)
      (pss_one (ps_ret (pe_callB (cr_all rfl) (by rfl) T.all_ (by decide +kernel) (pa_cons (pe_lc (own := [("one", 3), ("other", 4)]) (g := gTup K 2 (gCons (gName 3) (gCons (gName 4) gNil))) (tt := tYes) rfl scIsLot.nd (pi_zipA (by rfl) T.zip_ (pa_cons (pv 0) (pa_cons (pe_slice sl_tupA (pv 0) (po_some pe_int) po_none) pa_nil))) (blkOk_by (own := [("one", 3), ("other", 4)]) (N := nIL) (sc := defScope sIsLot) (by decide +kernel))
          (fun _ _ _ _ _ => pg_tup rfl (pgs_cons (pg_name (i := 3) scIsLot.nd rfl (Or.inl rfl)) (pgs_cons (pg_name (i := 4) scIsLot.nd rfl (Or.inl rfl)) pgs_nil))) (fun _ _ _ _ _ => pts_nil) (fun _ _ _ _ _ => pe_cmpR op_lt (pv 3) (pv 4) (nomark _))) pa_nil)))), ?_⟩
    cases hz with
    | no t nt => exact ⟨v, rfl, v, _, _, _, _, rfl, .ty _, t _ (fun _ _ e => e), nt, _, rfl, iteT (iteT (q _ (fun _ _ e => e)))⟩
    | @tup a vs ds h m l =>
      refine ⟨.ref a, rfl, .ref a, _, _, _, _, rfl, .ty _, .base (.tup h), (kit_ty (show kitB "tuple" "tuple" = some true from by decide +kernel)), _, rfl, iteF ?_⟩
      have lm := m.len
      refine ⟨_, rfl, a, rfl, ⟨_, SqT.of h⟩, fun D hD => ?_⟩
      refine walk_core (walk_tup (K := K) (a := a) (xs := vs)) (fun i G => Same H G ∧ G D = some (.lst (((ds.take i).map fun d => within d 0 (n - 1)).map V.bl))) ⟨same_up hD, upd_same⟩ (fun _ _ _ g => SqT.of (g.1 _ _ h)) ?_ ?_
      · rintro i y G G' hi ⟨s1, hD1⟩ ⟨rfl, hy⟩
        obtain ⟨d, hd, fd⟩ := m.at hy
        refine ⟨rfl, _, rfl, _, rfl, _, _, rfl, rfl, _, d, 0, n - 1, rfl, .fl fd, ?_⟩
        refine ⟨_, hD1, small1000 (by rw [List.length_map, List.length_map, List.length_take]; omega), sup hD s1, ?_⟩
        rw [upd_same, take_next1 hd, List.map_append, List.map_append]
        rfl
      · rintro G ⟨s1, hD1⟩
        rw [lm, List.take_length] at hD1
        refine ⟨D, _, rfl, SqL.of hD1, ⟨_, rfl, ?_⟩⟩
        have ea : ((ds.map fun d => within d 0 (n - 1)).all id) = ds.all fun d => within d 0 (n - 1) := by
          rw [List.all_map]
          rfl
        rw [ea]
        refine ite2 (fun e3 => ?_) fun e3 => ?_
        · have e4 : (ds.all fun d => within d 0 (n - 1)) = false := by simpa using e3
          have q2 : Q (.bl ((ds.all fun d => within d 0 (n - 1)) && asc (ds.map toI))) G := q _ s1
          rw [e4, Bool.false_and] at q2
          exact q2
        · have e4 : (ds.all fun d => within d 0 (n - 1)) = true := by simpa using e3
          have q2 : ∀ G', Same G G' → Q (.bl (asc (ds.map toI))) G' := fun G' s2 => by
            have q3 : Q (.bl ((ds.all fun d => within d 0 (n - 1)) && asc (ds.map toI))) G' := q G' (s1.trans s2)
            rw [e4, Bool.true_and] at q3
            exact q3
          have allI : vs = (ds.map toI).map V.int := by
            clear q2 q hD1 ea e3 h l lm s1
            induction m with
            | nil => rfl
            | @cons v d vs ds f t ih =>
              rw [List.all_cons, Bool.and_eq_true] at e4
              obtain ⟨i, rfl, rfl, _⟩ := within_inv f e4.1
              rw [List.map_cons, List.map_cons, ← ih e4.2]
              rfl
          generalize ds.map toI = ns at allI q2
          subst allI
          have hG := s1 _ _ h
          refine ⟨.ref a, rfl, .ref a, rfl, 1, rfl, noPart (sl_any hG fun b G2 s2 hb => ?_)⟩
          rw [cut_tail, ← List.map_drop] at hb
          refine ⟨a, b, _, _, rfl, .inr ⟨SqT.of (s2 _ _ hG), SqT.of hb, fun D2 hD2 => ?_⟩⟩
          have ln : (ns.drop 1).length = ns.length - 1 := List.length_drop
          refine walk_core (walk_zipT (K := K) (a := a) (b := b) (xs := ns.map V.int) (ys := (ns.drop 1).map V.int) (by rw [List.length_map, List.length_map, ln]; omega)) (fun i F => Same G2 F ∧ F D2 = some (.lst (((List.range i).map fun j => decide (ns.getD j 0 < ns.getD (j + 1) 0)).map V.bl))) ⟨same_up hD2, by rw [List.range_zero]; exact upd_same⟩ (fun _ _ _ g => ⟨SqT.of (g.1 _ _ (s2 _ _ hG)), SqT.of (g.1 _ _ hb)⟩) ?_ ?_
          · rintro i y F F' hi ⟨s3, hD3⟩ ⟨T0, x, z, rfl, hT, rfl, hx, hz⟩
            obtain ⟨x, ex, rfl⟩ := zV_get hx
            obtain ⟨z, ez, rfl⟩ := zV_get hz
            rw [List.length_map, ln] at hi
            rw [List.getElem?_drop] at ez
            have nT : T0 ≠ D2 := fun e => by
              rw [e, hD3] at hT
              cases hT
            refine ⟨T0, _, rfl, SqT.of upd_same, rfl, _, _, rfl, _, _, rfl, rfl, ?_⟩
            refine ⟨rfl, _, rfl, _, rfl, _, _, rfl, rfl, ?_⟩
            refine ⟨_, (upd_ne (Ne.symm nT)).trans hD3, small1000 (by rw [List.length_map, List.length_map, List.length_range]; rw [List.length_map] at l; omega), sup hD2 (s3.trans (same_up hT)), ?_⟩
            have ev : decide (ns.getD i 0 < ns.getD (i + 1) 0) = decide (x < z) := by
              rw [List.getD_eq_getElem?_getD, List.getD_eq_getElem?_getD, ex, show i + 1 = 1 + i from Nat.add_comm _ _, ez]
              rfl
            rw [upd_same, List.range_succ, List.map_append, List.map_append, List.map_singleton, List.map_singleton, ev]
          · rintro F ⟨s3, hD3⟩
            rw [List.length_map, ln] at hD3
            refine ⟨D2, _, rfl, SqL.of hD3, ?_⟩
            have ea : (((List.range (ns.length - 1)).map fun j => decide (ns.getD j 0 < ns.getD (j + 1) 0)).all id) = asc ns := by
              rw [List.all_map]
              rfl
            rw [ea]
            exact q2 _ (s2.trans s3)
theorem scCkLot : FnScope ["lot", "count"] ["lot", "count"] (defScope sCkLot) := ⟨rfl, rfl, rfl, by decide +kernel, rfl, by decide +kernel, by decide +kernel⟩
theorem ok_cklot {f : Addr} {fd : FuncData} (F : Fun K "check_lot" "check_lot" sCkLot f fd) (M : Mak P w K mg base "NoLot" C) (D1 : Df P w K mg base 3 "is_lot" ["value", "count"] (spIsLot K)) : FnOk P w K mg base (L2.CX P w) 4 f fd ["lot", "count"] (spCkLot K C) := by
  obtain ⟨e1, fd1, G1, m1, k1, b1⟩ := D1.ex
  obtain ⟨fI, fdI, TE, GI, bI⟩ := M.ex
  refine F.okX scCkLot (fun vs H Q E h => ?_) (fun cdv A outer s H vs Q E hr h => ?_)
  · obtain ⟨v, n, o, rfl, _⟩ := h
    rfl
  · obtain ⟨v, n, o, rfl, hz, q1, q2⟩ := h
    refine ⟨_, pss_one (ps_if (pt_not (pt_val (pe_call G1 hr (by rfl) m1 k1 b1 .nil pass0 (pa_cons (pv 0) (pa_cons (pv 1) pa_nil)))))
      (pss_one (ps_raise rfl (takes_of rfl rfl rfl rfl) (pmk_oex TE.ox TE.iC TE.tI GI (hr.mono (by decide)) bI .nil pass0 (by rfl) TE.gC (pa_cons (pv 0) pa_nil)))) pss_nil), ?_⟩
    refine ⟨v, rfl, _, rfl, v, n, o, rfl, hz, fun H' s' => ⟨_, rfl, ?_⟩⟩
    refine ite2 (fun e => raised_v TE.ox TE.no rfl ((q2 (by simpa using e)).same s')) fun e => q1 (by simpa using e) _ s'
end
end Pl

namespace Pl
open L2 PySem PySem.Spec PyProof.Rows RZ
abbrev TbL := List (Addr × Str)
/-- a list of lots -/
def Lots (H : Hp) (p : Addr) (L : List AT) : Prop := H p = some (.lst (refs L)) ∧ ∀ q ∈ L, H q.1 = some (.tup (q.2.map V.int))
theorem Lots.same {H G : Hp} {p : Addr} {L : List AT} (h : Lots H p L) (s : Same H G) : Lots G p L := ⟨s _ _ h.1, fun q hq => s _ _ (h.2 q hq)⟩
theorem Lots.ext {H G : Hp} {p : Addr} {L : List AT} (h : Lots H p L) (s : LamX.ExtN H G) : Lots G p L := ⟨s _ _ h.1 (fun _ z => by cases z), fun q hq => s _ _ (h.2 q hq) (fun _ z => by cases z)⟩
theorem refs_len (L : List AT) : (refs L).length = L.length := List.length_map _
theorem refs_get {L : List AT} {i : Nat} {v : V} (h : (refs L)[i]? = some v) : ∃ p, L[i]? = some p ∧ v = .ref p.1 := by
  unfold refs at h
  rw [List.getElem?_map] at h
  cases e : L[i]? with
  | none =>
    rw [e] at h
    cases h
  | some p =>
    rw [e] at h
    exact ⟨p, rfl, (Option.some.inj h).symm⟩
theorem refs_app (L M : List AT) : refs (L ++ M) = refs L ++ refs M := List.map_append
theorem cat_any {K : PySem.W.Frag} {H : Hp} {a b : Addr} {xs ys : List V} {Q : VK} (ha : H a = some (.tup xs)) (hb : H b = some (.tup ys)) (l : xs.length + ys.length ≤ 1000) (q : ∀ p H', Same H H' → H' p = some (.tup (xs ++ ys)) → Q (.ref p) H') : rCatA K (.ref a) (.ref b) H Q := by
  refine ⟨a, b, xs, ys, rfl, rfl, SqT.of ha, SqT.of hb, Nat.le_of_lt (small1000 l), fun e => q b H (fun _ _ e => e) ?_, fun _ e => q a H (fun _ _ e => e) ?_, fun _ _ p hp => q p _ (same_up hp) upd_same⟩
  · rw [e, List.nil_append]
    exact hb
  · rw [e, List.append_nil]
    exact ha
theorem leK_eq (a b : AT) : leK a b = leZ a.2 b.2 := rfl
theorem sort_parts {L : List AT} {u : Z} (h : L.map (·.2) = subs u) : (L.mergeSort leK).map (·.2) = parts u := by
  rw [List.map_mergeSort (s := leZ) fun a _ b _ => leK_eq a b, h]
  rfl
/-- as Fun.ok, of a def whose code object is known -/
theorem okC1 {P : Program} {K : PySem.W.Frag} {w : World} {base : Heap} {mg : Str → Option Value} {x qual : Str} {st : Stmt} {f c : Addr} {fd : FuncData} {N ps : List Str} {k : Nat} {sp : Sp} (F : FunC K x qual st f c fd) (S : FnScope N ps (defScope st)) (len : ∀ vs H Q E, sp vs H Q E → vs.length = ps.length)
    (walk : ∀ (A : Around) (outer : List Env) (s : Shared) (H : Hp) (vs : List V) (Q : VK) (E : XK), Room k (A.deeper (envOfC qual (defScope st) s.heap.objs.size f (.ref c))) → sp vs H Q E →
      ∃ t, PSs (cxOf CX0 P w K mg base N qual (defScope st) f (.ref c) A outer s H E).nox (defBody st) t ∧ t { nx := fun _ H' => Q .non H', rt := Q } (start N vs) H) : FnOk P w K mg base CX0 (k + 1) f fd ps sp := by
  obtain ⟨oc, od, kV, doc, pm, an, ct, osl, rfl, lk, hcd⟩ := F.ex
  refine fn_of lk hcd S len fun A outer s H vs Q E hr hsp => ?_; skip
  obtain ⟨t, h, q⟩ := walk A outer s H vs Q E hr hsp
  exact ⟨t, h.nox, q⟩
/-- all lots within one are told, as a list or a tuple it is handed in -/
def spParts (Tb : TbL) : Sp := fun vs H Q _ => ∃ (a : Addr) (u : Z), vs = [.ref a] ∧ (H a = some (.tup (u.map V.int)) ∨ H a = some (.lst (u.map V.int))) ∧ u.length ≤ 5 ∧ LamX.Tabs Tb H ∧ ∀ p L G, LamX.ExtN H G → LamX.Tabs Tb G → Lots G p L → L.map (·.2) = parts u → Q (.ref p) G
abbrev lamA : Str := (envOfC "all_lots" (defScope sAllLots) 0 0 (.ref 0)).qual ++ "<lambda>"
abbrev lamH : Str := (envOfC "_heaviest" (defScope sHeavy) 0 0 (.ref 0)).qual ++ "<lambda>"
abbrev lamR : Str := (envOfC "_law_refuses" (defScope sRefused) 0 0 (.ref 0)).qual ++ "<lambda>"
theorem pow5 {i : Nat} (h : i ≤ 5) : 2 ^ i ≤ 32 := Nat.pow_le_pow_right (by decide) h
section
variable {P : Program} {K : PySem.W.Frag} {w : World} {base : Heap} {mg : Str → Option Value} {c Pt : Addr} {Tb : TbL}
abbrev N_alots : List Str := ["copies", "lots", "copy", "lot"]
theorem sc_alots : FnScope N_alots ["copies"] (defScope sAllLots) := ⟨rfl, rfl, rfl, by decide +kernel, rfl, by decide +kernel, by decide +kernel⟩
theorem ok_alots {f : Addr} {fd : FuncData} (F : FunC K "all_lots" "all_lots" sAllLots f c fd) (T : Cst mg) (TB : LamX.TabB base mg c Pt) (hT : (Pt, lamA) ∈ Tb) (hT1 : ∀ p ∈ Tb, p.1 = Pt → p.2 = lamA) : FnOk P w K mg base CX0 3 f fd ["copies"] (spParts Tb) := by
  refine okC1 F sc_alots (fun vs H Q E h => ?_) (fun A outer s0 H vs Q E hr h => ?_)
  · obtain ⟨a, u, rfl, _⟩ := h
    rfl
  · obtain ⟨a, u, rfl, ha, hl, hTb, q⟩ := h
    have it : ∃ (wi : TI) (J : It), PI (cxOf CX0 P w K mg base N_alots "all_lots" (defScope sAllLots) f (.ref c) A outer s0 H E).nox (match defBody sAllLots with
        | [_, .For tg _ _ _ _, _] => tg
        | _ => .Constant .none 0 ⟨0, 0, 0, 0⟩) (match defBody sAllLots with
        | [_, .For _ it _ _ _, _] => it
        | _ => .Constant .none 0 ⟨0, 0, 0, 0⟩) wi ∧ (∀ (σ : L2.St) (G : Hp) R, σ[0]? = some (some (.ref a)) → Same H G → R J G → wi σ G R) ∧ L2.Walk J u.length (fun G => Same H G) (YAt (u.map V.int)) := by
      rcases ha with ha | ha
      · refine ⟨_, Itt K a, pi_tup (pv 0), fun σ G R hσ sG r => ⟨_, hσ, a, rfl, ⟨_, SqT.of (sG _ _ ha)⟩, r⟩, ?_⟩
        have := walk_tup (K := K) (a := a) (xs := u.map V.int)
        rw [show (u.map V.int).length = u.length from List.length_map _] at this
        exact this.mono (fun G sG => SqT.of (sG _ _ ha)) fun _ _ _ _ _ _ y => y
      · refine ⟨_, Itl K a, pi_list (pv 0), fun σ G R hσ sG r => ⟨_, hσ, a, rfl, ⟨_, SqL.of (sG _ _ ha)⟩, r⟩, ?_⟩
        have := walk_list (K := K) (a := a) (xs := u.map V.int)
        rw [show (u.map V.int).length = u.length from List.length_map _] at this
        exact this.mono (fun G sG => SqL.of (sG _ _ ha)) fun _ _ _ _ _ _ y => y
    obtain ⟨wi, J, hit, hwi, hw⟩ := it
    refine ⟨_, pss_cons (ps_set (i := 1) sc_alots.nd rfl (Or.inl rfl) (pe_lst (pa_cons (pe_tup pa_nil) pa_nil)))
      (pss_cons (ps_for PassesOwn.never rfl hit (pg_name (i := 2) sc_alots.nd rfl (Or.inr rfl))
        (pss_one (ps_set (i := 1) sc_alots.nd rfl (Or.inl rfl) (pe_op op_cat (pv 1) (pe_lc (own := [("lot", 3)]) (g := gName 3) (tt := tYes) rfl sc_alots.nd (pi_list (pv 1)) (blkOk_by (own := [("lot", 3)]) (N := N_alots) (sc := defScope sAllLots) (by decide +kernel))
          (fun _ _ _ _ _ => pg_name (i := 3) sc_alots.nd rfl (Or.inl rfl)) (fun _ _ _ _ _ => pts_nil) (fun _ _ _ _ _ => pe_op (show OpR _ (binaryOp .Add) (rCatA K) from op_catA) (pv 3) (pe_tup (pa_cons (pv 2) pa_nil))))))))
      (pss_one (ps_ret (pe_sortLot (x := "lot") (c := c) (P := Pt) ⟨rfl, rfl, rfl, rfl, fun _ _ _ _ _ _ => rfl, ⟨_, _, _, _, _, _, rfl⟩, by decide, by decide⟩ (by rfl) T.srt T.len (pv 1) TB hT hT1 rfl (hr.mono (by decide)))))), ?_⟩
    refine ⟨by show 0 ≤ sizeLine; decide, fun t0 ht0 => ⟨by show 1 ≤ sizeLine; decide, fun p0 hp0 => ?_⟩⟩
    have sA : Same H (upd H t0 (.tup [])) := same_up ht0
    have fA : upd H t0 (.tup []) t0 = some (.tup []) := upd_same
    generalize upd H t0 (.tup []) = G0 at sA fA hp0 ⊢
    have sB : Same G0 (upd G0 p0 (.lst [.ref t0])) := same_up hp0
    have hp : upd G0 p0 (.lst [.ref t0]) p0 = some (.lst [.ref t0]) := upd_same
    have f0 := sB _ _ fA
    have s0 := sA.trans sB
    generalize upd G0 p0 (.lst [.ref t0]) = G1 at s0 hp f0 ⊢
    refine hwi _ _ _ rfl s0 ?_
    refine for_it hw (fun i σ G => ∃ d L x2, σ = [some (.ref a), some (.ref d), x2, none] ∧ Same H G ∧ Lots G d L ∧ L.map (·.2) = subs (u.take i))
      ⟨p0, [(t0, [])], _, rfl, s0, ⟨hp, fun q hq => by
        rw [List.mem_singleton] at hq
        rw [hq]
        exact f0⟩, rfl⟩ (fun i σ G _ h => by
        obtain ⟨_, _, _, _, h, _⟩ := h
        exact h) ?_ ?_
    · rintro i y σ G G' hi ⟨d, L, x2, rfl, s1, hL, eL⟩ ⟨rfl, hy⟩
      obtain ⟨x, hx, rfl⟩ := zV_get hy
      have lL : L.length ≤ 32 := by
        have e := congrArg List.length eL
        rw [List.length_map, subs_len, List.length_take] at e
        rw [e]
        exact pow5 (by omega)
      have i5 : i < u.length := (List.getElem?_eq_some_iff.mp hx).1
      have lq : ∀ q ∈ L, q.2.length ≤ 5 := fun q hq => by
        have m : q.2 ∈ subs (u.take i) := eL ▸ List.mem_map.mpr ⟨q, hq, rfl⟩
        have := (mem_subs.mp m).length_le
        rw [List.length_take] at this
        omega
      refine ⟨_, rfl, _, rfl, d, rfl, ⟨_, SqL.of hL.1⟩, fun D hD => ?_⟩
      refine walk_core (walk_list (K := K) (a := d) (xs := refs L)) (fun j F => ∃ M : List AT, Same G' F ∧ Lots F D M ∧ M.map (·.2) = ((L.take j).map (·.2)).map (· ++ [x])) ⟨[], same_up hD, ⟨upd_same, fun q hq => by cases hq⟩, by rw [List.take_zero]; rfl⟩ (fun _ _ _ h => by
        obtain ⟨_, h, _⟩ := h
        exact SqL.of (h _ _ hL.1)) ?_ ?_
      · rintro j y F F' hj ⟨M, s2, hM, eM⟩ ⟨rfl, hy⟩
        obtain ⟨r, hr', rfl⟩ := refs_get hy
        have rL := List.mem_of_getElem? hr'
        have h5 := lq r rL
        refine ⟨rfl, _, rfl, _, rfl, by show 1 ≤ sizeLine; decide, fun t1 ht1 => ?_⟩
        have s3 := same_up (o := .tup [.int x]) ht1
        have f3 : upd F' t1 (.tup [.int x]) t1 = some (.tup [.int x]) := upd_same
        refine cat_any (s3 _ _ (s2 _ _ (hL.2 r rL))) f3 (by rw [List.length_map]; show r.2.length + 1 ≤ 1000; omega) fun p F2 s4 hp2 => ?_
        have s34 := s3.trans s4
        refine ⟨_, s34 _ _ hM.1, ?_, M ++ [(p, r.2 ++ [x])], sup hD (s2.trans s34), ⟨?_, fun q hq => ?_⟩, ?_⟩
        · have e := congrArg List.length eM
          rw [List.length_map, List.length_map, List.length_map, List.length_take] at e
          exact small1000 (by rw [refs_len]; omega)
        · rw [upd_same, refs_app]
          rfl
        · have nD : ∀ b o, F2 b = some o → (∀ ys, o ≠ .lst ys) → b ≠ D := fun b o e n z => by
            rw [z, s34 _ _ hM.1] at e
            exact n _ (Option.some.inj e).symm
          rcases List.mem_append.mp hq with h | h
          · have e := s34 _ _ (hM.2 q h)
            rw [upd_ne (nD _ _ e fun _ z => by cases z)]
            exact e
          · rw [List.mem_singleton] at h
            subst h
            rw [upd_ne (nD _ _ hp2 fun _ z => by cases z), List.map_append]
            exact hp2
        · rw [List.map_append, eM, take_next1 hr', List.map_append, List.map_append]
          rfl
      · rintro F ⟨M, s2, hM, eM⟩
        rw [refs_len, List.take_length] at eM
        have lM : M.length = L.length := by
          have e := congrArg List.length eM
          simpa using e
        have hL2 := hL.same s2
        refine ⟨d, D, _, _, rfl, rfl, hL2.1, hM.1, Nat.le_of_lt (small1000 (by rw [refs_len, refs_len]; omega)), fun p2 hp2 => ?_⟩
        have s5 := same_up (o := .lst (refs L ++ refs M)) hp2
        refine ⟨p2, L ++ M, _, rfl, (s1.trans s2).trans s5, ⟨by rw [upd_same, refs_app], fun q hq => ?_⟩, ?_⟩
        · rcases List.mem_append.mp hq with h | h
          · exact s5 _ _ (hL2.2 q h)
          · exact s5 _ _ (hM.2 q h)
        · rw [List.map_append, eM, take_next1 hx, subs_snoc, eL]
          rfl
    · rintro σ G ⟨d, L, x2, rfl, s1, hL, eL⟩
      rw [List.take_length] at eL
      have lL : L.length ≤ 32 := by
        have e := congrArg List.length eL
        rw [List.length_map, subs_len] at e
        rw [e]
        exact pow5 hl
      refine ⟨_, rfl, hTb.ext s1, d, L, rfl, hL.1, hL.2, by omega, fun q hq => ?_, fun H2 p2 eN T2 hp2 => ?_⟩
      · have m : q.2 ∈ subs u := eL ▸ List.mem_map.mpr ⟨q, hq, rfl⟩
        have := (mem_subs.mp m).length_le
        omega
      · have s5 := same_up (o := .lst (refs (L.mergeSort leK))) hp2
        refine q p2 (L.mergeSort leK) _ (((LamX.ExtN.of s1).trans eN).trans (LamX.ExtN.of s5)) (T2.ext s5) ⟨upd_same, fun r hr2 => ?_⟩ (sort_parts eL)
        exact s5 _ _ (eN _ _ (hL.2 r ((List.mergeSort_perm L leK).mem_iff.mp hr2)) fun _ z => by cases z)
end
end Pl

namespace Pl
open L2 PySem PySem.Spec PyProof.Rows RZ
theorem intEq (x y : Int) : (decide (V.int x = V.int y)) = decide (x = y) := by
  by_cases h : x = y
  · subst h; simp
  · rw [decide_eq_false h, decide_eq_false fun z => h (by injection z)]
theorem dp_Z {K : PySem.W.Frag} {H : Hp} {a : Addr} {l : Z} (h : H a = some (.tup (l.map V.int))) : Dp K H (.ref a) (datZ l) := by
  refine .tup (SqT.of h) ?_
  clear h
  induction l with
  | nil => exact .nil
  | cons x l ih => exact .cons (.int x) ih
theorem dp_Zs {K : PySem.W.Frag} {H : Hp} {p : Addr} {L : List AT} (h : Lots H p L) : Dp K H (.ref p) (datZs (L.map (·.2))) := by
  refine .lst (SqL.of h.1) ?_
  have g := h.2
  clear h
  induction L with
  | nil => exact .nil
  | cons q L ih => exact .cons (dp_Z (g q List.mem_cons_self)) (ih fun r hr => g r (List.mem_cons_of_mem _ hr))
def rLenQ (K : PySem.W.Frag) : List V → Hp → VK → Prop := fun xs H Q => ∃ p ys, xs = [V.ref p] ∧ (SqL K H p ys ∨ SqT K H p ys) ∧ Q (V.int (ys.length : Nat)) H
theorem lots_but {G : Hp} {l p : Addr} {L : List AT} {xs ys : List V} (hL : Lots G p L) (h : G l = some (.lst xs)) (n : p ≠ l) : Lots (upd G l (.lst ys)) p L := by
  refine ⟨(upd_ne n).trans hL.1, fun q hq => ?_⟩
  have e := hL.2 q hq
  rw [upd_ne fun z => by rw [z, h] at e; cases e]
  exact e
theorem tup_but {G : Hp} {l b : Addr} {zs xs ys : List V} (e : G b = some (.tup zs)) (h : G l = some (.lst xs)) : upd G l (.lst ys) b = some (.tup zs) := by
  rw [upd_ne fun z => by rw [z, h] at e; cases e]
  exact e
/-- one more at the list's end -/
theorem lots_app {G : Hp} {l : Addr} {L : List AT} {q : AT} (hL : Lots G l L) (hq : G q.1 = some (.tup (q.2.map V.int))) : Lots (upd G l (.lst (refs L ++ [.ref q.1]))) l (L ++ [q]) := by
  refine ⟨by rw [upd_same, refs_app]; rfl, fun r hr => ?_⟩
  rcases List.mem_append.mp hr with h | h
  · exact tup_but (hL.2 r h) hL.1
  · rw [List.mem_singleton] at h
    subst h
    exact tup_but hq hL.1
theorem ext_upd {H G : Hp} {l : Addr} {o : HO} (e : LamX.ExtN H G) (n : ∀ b u, H b = some u → (∀ ps, u ≠ .tbl ps) → b ≠ l) : LamX.ExtN H (upd G l o) := fun b u hb hn => (upd_ne (n b u hb hn)).trans (e b u hb hn)
def rTupOf (K : PySem.W.Frag) : List V → Hp → VK → Prop := fun xs H Q => ∃ p ys, xs = [.ref p] ∧ ((SqL K H p ys ∧ ∀ l, H l = none → Q (.ref l) (upd H l (.tup ys))) ∨ (SqT K H p ys ∧ Q (.ref p) H))
theorem pi_or {X : Cx} {tg e : Expr} {w1 w2 : TI} (h1 : PI X tg e w1) (h2 : PI X tg e w2) : PI X tg e (fun σ H R => w1 σ H R ∨ w2 σ H R) := ⟨fun pins s σ H R I h => h.elim (fun g => h1.run pins s σ H R I g) (fun g => h2.run pins s σ H R I g)⟩
def rgZ (c : Int) : Z := (List.range c.toNat).map fun i => (0 : Int) + (i : Nat)
theorem rgV_rgZ (c : Int) : rgV 0 c = (rgZ c).map V.int := by
  unfold rgV rgZ
  rw [List.map_map, Int.sub_zero]
  rfl
theorem rgZ_lot (c : Int) : Lot c (rgZ c) := by
  constructor
  · unfold rgZ
    rw [List.pairwise_map]
    refine List.pairwise_lt_range.imp fun h => ?_
    omega
  · intro x hx
    obtain ⟨i, hi, rfl⟩ := List.mem_map.mp hx
    rw [List.mem_range] at hi
    omega
theorem rgZ_len (c : Int) : (rgZ c).length = c.toNat := by
  unfold rgZ
  rw [List.length_map, List.length_range]; skip
theorem rgZ_get {c : Int} {i : Nat} (h : i < c.toNat) : (rgZ c)[i]? = some (0 + (i : Int)) := by
  unfold rgZ
  rw [List.getElem?_map, List.getElem?_range h]
  rfl
theorem tabs_upd {Tb : TbL} {G : Hp} {l : Addr} {xs ys : List V} (t : LamX.Tabs Tb G) (h : G l = some (.lst xs)) : LamX.Tabs Tb (upd G l (.lst ys)) := by
  intro p hp
  obtain ⟨ps, h1, h2, h3⟩ := t p hp
  have n1 : p.1 ≠ l := fun e => by
    rw [e, h] at h1
    cases h1
  refine ⟨ps, (upd_ne n1).trans h1, h2, fun pos cv hc => ?_⟩
  obtain ⟨c, e1, e2⟩ := h3 pos cv hc; skip
  have n2 : c ≠ l := fun e => by
    rw [e, h] at e2
    cases e2
  exact ⟨c, e1, (upd_ne n2).trans e2⟩

/-! ### sum(a tuple), sorted(a list of tuples) told in full -/
section
variable {X : Cx}
def rSumT (K : PySem.W.Frag) : List V → Hp → VK → Prop := fun vs H Q => ∃ (a : Addr) (ns : List Int), vs = [V.ref a] ∧ SqT K H a (ns.map V.int) ∧ Q (.int ns.sum) H
theorem cr_sumT (hc : X.calm = true) : CallR X (.builtin "sum") (rSumT X.K) := by
  intro pins s σ H vs us Q I r h; skip
  obtain ⟨a, ns, rfl, hs, q⟩ := h; skip
  obtain ⟨its, rv, hl, _⟩ := I.tuple hs
  rw [Vals.ref1 r]
  have hi := rv.ints
  obtain ⟨xs, e⟩ := hi.allInts.items; skip
  have hn : numsOf (intItems xs).toList = ns := by rw [← e]; exact hi.numsOf; skip
  rw [nums_intItems] at hn
  obtain ⟨o, e1, e2, k, e3⟩ := hl
  rw [e] at e3
  refine PySem.W.ktm_sumG (I.ok.hd hc) ⟨o, e1, e2, k, e3⟩ fun h' tk t' hk => ?_
  refine ⟨.int _, H, I.kept hk, ⟨_, rfl⟩, ?_⟩
  rw [preSum_eq, List.take_of_length_le (by simp), hn]; skip
  exact q
def rSortX (K : PySem.W.Frag) : List V → Hp → VK → Prop := fun vs H Q => ∃ (a : Addr) (L : List AT), vs = [V.ref a] ∧ SqL K H a (refs L) ∧ (∀ p ∈ L, SqT K H p.1 (p.2.map V.int)) ∧ ∀ (p : Addr), H p = none → Q (.ref p) (upd H p (.lst (refs (L.mergeSort (PySem.W.dataLe false encT)))))
theorem cr_sortX (hu : X.A.units + 64 < cLine) : CallR X (.builtin "sorted") (rSortX X.K) := by
  intro pins s σ H vs us Q I r h; skip
  obtain ⟨a, L, rfl, ha, hk, q⟩ := h
  rw [Vals.ref1 r]
  obtain ⟨its, rv, pl, hz⟩ := I.list ha
  have e := refs_of_vals rv
  subst e
  have hz' : L.length ≤ sizeLine := by
    have z := hz
    unfold refs at z
    rw [List.length_map] at z
    exact z
  refine sorted_list (prog := X.prog) (w := X.w) (L := L) pl.isList (fun p hp => I.isT (hk p hp)) hz' (by omega) fun out eo => ?_
  obtain ⟨ep, he⟩ := PyProof.Rows.sortedAll_at s.heap (L.map fun p => Value.ref p.1) (List.toArray out)
  have pm := List.mergeSort_perm L (PySem.W.dataLe false encT)
  have hlen : (refs (L.mergeSort (PySem.W.dataLe false encT))).length ≤ sizeLine := by
    unfold refs
    rw [List.length_map, pm.length_eq]
    exact hz'
  exact ⟨.ref _, upd H (s.heap.objs.size + 1) (.lst (refs (L.mergeSort (PySem.W.dataLe false encT)))), I.laid (t' := s.toks) (fun _ _ => PyProof.Rows.sortedAll_old) (Nat.le_succ _) ⟨hlen, out, ep, by rw [eo]; exact vals_of_refs _, he⟩, rfl, q _ (I.hok.fresh (Nat.le_succ _))⟩
end
theorem sort_E (L : List AT) : (L.mergeSort (PySem.W.dataLe false encT)).map (·.2) = (L.map (·.2)).mergeSort leE := by
  rw [List.map_mergeSort (s := leE) fun a _ b _ => show PySem.W.dataLe false encT a b = leE a.2 b.2 from rfl]
/-! ### votes and needs -/
/-- ints, as a list or a tuple -/
def Ints (H : Hp) (b : Addr) (u : Z) : Prop := H b = some (.lst (u.map V.int)) ∨ H b = some (.tup (u.map V.int))
theorem Ints.same {H G : Hp} {b : Addr} {u : Z} (h : Ints H b u) (s : Same H G) : Ints G b u := h.imp (s _ _) (s _ _)
def okV : Option (List PyData) → Bool
  | none => false
  | some ds => (decide ((1 : Int) ≤ ds.length) && decide ((ds.length : Int) ≤ 5)) && ((ds.all fun d => within d 0 9) && decide ((1 : Int) ≤ (ds.map toI).sum))
/-- votes -/
structure Vok (v : Z) : Prop where
  len : v.length ≤ 5
  one : 1 ≤ v.length
  rng : ∀ x ∈ v, 0 ≤ x ∧ x ≤ 9
  pos : 1 ≤ v.sum
theorem Vok.nn {v : Z} (h : Vok v) : ∀ x ∈ v, 0 ≤ x := fun x hx => (h.rng x hx).1
theorem okV_of {v : Z} (h : Vok v) : okV (some (v.map PyData.int)) = true := by
  have h1 := h.len
  have h2 := h.one
  show ((decide ((1 : Int) ≤ ((v.map PyData.int).length : Nat)) && decide ((((v.map PyData.int).length : Nat) : Int) ≤ 5)) && (((v.map PyData.int).all fun d => within d 0 9) && decide ((1 : Int) ≤ ((v.map PyData.int).map toI).sum))) = true
  rw [List.length_map, decide_eq_true (by omega), decide_eq_true (by omega), List.map_map, show (toI ∘ PyData.int) = id from rfl, List.map_id, decide_eq_true h.pos, Bool.and_true, Bool.true_and, Bool.and_true, List.all_map, List.all_eq_true]
  intro x hx
  exact within_yes (h.rng x hx).1 (h.rng x hx).2
theorem all_ints : ∀ {vs : List V} {ds : List PyData} {lo hi : Int}, FlL vs ds → (ds.all fun d => within d lo hi) = true → vs = (ds.map toI).map V.int
  | _, _, _, _, .nil, _ => rfl
  | _, _, _, _, .cons f t, e => by
    rw [List.all_cons, Bool.and_eq_true] at e
    obtain ⟨i, rfl, rfl, _⟩ := within_inv f e.1
    rw [List.map_cons, List.map_cons, ← all_ints t e.2]
    rfl
def spIsV (K : PySem.W.Frag) : Sp := fun vs H Q _ => ∃ (v : V) (o : Option (List PyData)), vs = [v] ∧ Tz K H v o ∧ ∀ H', Same H H' → Q (.bl (okV o)) H'
def CkV (K : PySem.W.Frag) (CV CN : Addr) (v n : V) (H : Hp) (E : XK) (G : Prop) : Prop := ∃ o, Tz K H v o ∧ (okV o = false → Rais CV v H E) ∧ (okV o = true → ∃ (a : Addr) (vts : Z), v = .ref a ∧ H a = some (.tup (vts.map V.int)) ∧ ∃ d, Nv H n d ∧ (within d 1 vts.sum = false → Rais CN n H E) ∧ (within d 1 vts.sum = true → G))
def spCkV (K : PySem.W.Frag) (CV CN : Addr) : Sp := fun vs H Q E => ∃ (v n : V), vs = [v, n] ∧ CkV K CV CN v n H E (∀ G, Same H G → Q .non G)
def spCkU (CC : Addr) : Sp := fun vs H Q E => ∃ (v : V) (d : PyData) (n : Int), vs = [v, .int n] ∧ Nv H v d ∧ (within d 0 n = false → Rais CC v H E) ∧ (within d 0 n = true → Q .non H)
def spVof : Sp := fun vs H Q _ => ∃ (a b : Addr) (v l : Z), vs = [.ref a, .ref b] ∧ H a = some (.tup (v.map V.int)) ∧ Ints H b l ∧ (∀ x ∈ l, 0 ≤ x ∧ x < v.length) ∧ l.length ≤ 100 ∧ ∀ G, Same H G → Q (.int (vsum v l)) G
def spLotsOf (Tb : TbL) : Sp := fun vs H Q _ => ∃ (n : Int), vs = [.int n] ∧ 0 ≤ n ∧ n ≤ 5 ∧ LamX.Tabs Tb H ∧ ∀ p L G, LamX.ExtN H G → LamX.Tabs Tb G → Lots G p L → L.map (·.2) = parts (rgZ n) → Q (.ref p) G
abbrev nIV : List Str := ["value", "vote"]
abbrev nVO : List Str := ["votes", "lot", "copy"]
section
variable {P : Program} {K : PySem.W.Frag} {w : World} {base : Heap} {mg : Str → Option Value} {CV CN CC : Addr} {Tb : TbL}
theorem scIsV : FnScope nIV ["value"] (defScope sIsVotes) := ⟨rfl, rfl, rfl, by decide +kernel, rfl, by decide +kernel, by decide +kernel⟩
theorem ok_isv {f : Addr} {fd : FuncData} (F : Fun K "is_votes" "is_votes" sIsVotes f fd) (T : Cst mg) (D1 : Df P w K mg base 2 "is_within" ["value", "least", "most"] spW) : FnOk P w K mg base CX0 3 f fd ["value"] (spIsV K) := by
  obtain ⟨e1, fd1, G1, m1, k1, b1⟩ := D1.ex
  obtain ⟨t1, hcp⟩ := T.copies
  obtain ⟨t2, hvo⟩ := T.votes
  refine F.ok scIsV (fun vs H Q E h => ?_) (fun cdv A outer s0 H vs Q E hr h => ?_)
  · obtain ⟨v, o, rfl, _⟩ := h
    rfl
  · obtain ⟨v, o, rfl, hz, q⟩ := h
    refine ⟨_, pss_cons (ps_if (PW.pt (pw_or (pt_not (pt_val (pe_callB call_isi (by rfl) T.isi (by decide +kernel) (pa_cons (pv 0) (pa_cons (pe_bltn (v := .ty "tuple") (by rfl) T.ttup (by decide +kernel) rfl) pa_nil)))))
        (pw_or1 (pt_not (pt_chain op_le op_le pe_int (pe_callB (show CallR _ (.builtin "len") (rLenQ K) from call_len_seq) (by rfl) T.len PySem.boot_len (pa_cons (pv 0) pa_nil)) (pe_glob (v := .int 5) (by rfl) hcp ⟨_, rfl⟩))))))
        (pss_one (ps_ret pe_bl)) pss_nil)
      (pss_one (ps_ret (pe_and (pe_callB (cr_all rfl) (by rfl) T.all_ (by decide +kernel) (pa_cons (pe_lc (own := [("vote", 1)]) (g := gName 1) (tt := tYes) rfl scIsV.nd (pi_tup (pv 0)) (blkOk_by (own := [("vote", 1)]) (N := nIV) (sc := defScope sIsVotes) (by decide +kernel))
          (fun _ _ _ _ _ => pg_name (i := 1) scIsV.nd rfl (Or.inl rfl)) (fun _ _ _ _ _ => pts_nil) (fun _ _ _ _ _ => pe_call G1 (hr.mono (by decide)) (by rfl) m1 k1 b1 .nil pass0 (pa_cons (pv 1) (pa_cons pe_int (pa_cons (pe_glob (v := .int 9) (by rfl) hvo ⟨_, rfl⟩) pa_nil))))) pa_nil))
        (pe_one (pe_cmpR op_ge (pe_callB (cr_sumT rfl) (by rfl) T.sum_ (by decide +kernel) (pa_cons (pv 0) pa_nil)) pe_int (nomark _)))))), ?_⟩
    cases hz with
    | no t nt => exact ⟨v, rfl, v, _, _, _, _, rfl, .ty _, t _ (fun _ _ e => e), nt, _, rfl, iteT (iteT (q _ (fun _ _ e => e)))⟩
    | @tup a vs ds h m l =>
      refine ⟨.ref a, rfl, .ref a, _, _, _, _, rfl, .ty _, .base (.tup h), (kit_ty (show kitB "tuple" "tuple" = some true from by decide +kernel)), _, rfl, iteF ?_⟩
      have lm := m.len
      have q1 : ∀ H', Same H H' → Q (.bl ((decide ((1 : Int) ≤ ds.length) && decide ((ds.length : Int) ≤ 5)) && ((ds.all fun d => within d 0 9) && decide ((1 : Int) ≤ (ds.map toI).sum)))) H' := q
      have no : (decide ((1 : Int) ≤ vs.length) && decide ((vs.length : Int) ≤ 5)) = false → Q (.bl false) H := fun e => by
        have q2 := q1 H fun _ _ e => e
        rw [← lm, e, Bool.false_and] at q2
        exact q2
      refine ⟨_, rfl, a, _, rfl, .inr (SqT.of h), _, _, rfl, rfl, _, rfl, ?_⟩
      refine ite2 (fun e1 => ?_) fun e1 => ?_
      · refine ⟨_, _, rfl, rfl, _, rfl, ?_⟩
        refine ite2 (fun e2 => ?_) fun e2 => ?_
        · refine no ?_
          have e2 : decide ((vs.length : Int) ≤ 5) = false := by simpa using e2
          rw [e2, Bool.and_false]
        · have e2 : decide ((vs.length : Int) ≤ 5) = true := by simpa using e2
          rw [← lm, e1, e2, Bool.true_and, Bool.true_and] at q1
          have l5 := of_decide_eq_true e2
          refine ⟨_, rfl, a, rfl, ⟨_, SqT.of h⟩, fun D hD => ?_⟩
          refine walk_core (walk_tup (K := K) (a := a) (xs := vs)) (fun i G => Same H G ∧ G D = some (.lst (((ds.take i).map fun d => within d 0 9).map V.bl))) ⟨same_up hD, upd_same⟩ (fun _ _ _ g => SqT.of (g.1 _ _ h)) ?_ ?_
          · rintro i y G G' hi ⟨s1, hD1⟩ ⟨rfl, hy⟩
            obtain ⟨d, hd, fd⟩ := m.at hy
            refine ⟨rfl, _, rfl, _, d, 0, 9, rfl, .fl fd, ?_⟩
            refine ⟨_, hD1, small1000 (by rw [List.length_map, List.length_map, List.length_take]; omega), sup hD s1, ?_⟩
            rw [upd_same, take_next1 hd, List.map_append, List.map_append]
            rfl
          · rintro G ⟨s1, hD1⟩
            rw [lm, List.take_length] at hD1
            refine ⟨D, _, rfl, SqL.of hD1, ⟨_, rfl, ?_⟩⟩
            have ea : ((ds.map fun d => within d 0 9).all id) = ds.all fun d => within d 0 9 := by
              rw [List.all_map]
              rfl
            rw [ea]
            refine ite2 (fun e3 => ?_) fun e3 => ?_
            · have allI := all_ints m e3
              have hG := s1 _ _ h
              rw [allI] at hG
              have q2 := q1 G s1
              rw [e3, Bool.true_and] at q2
              exact ⟨_, rfl, a, _, rfl, SqT.of hG, _, _, rfl, rfl, q2⟩
            · have e3 : (ds.all fun d => within d 0 9) = false := by simpa using e3
              have q2 := q1 G s1
              rw [e3, Bool.false_and] at q2
              exact q2
      · refine ⟨_, rfl, iteT (no ?_)⟩
        rw [show decide ((1 : Int) ≤ vs.length) = false from by simpa using e1, Bool.false_and]
theorem scCkV : FnScope ["votes", "need"] ["votes", "need"] (defScope sCkVotes) := ⟨rfl, rfl, rfl, by decide +kernel, rfl, by decide +kernel, by decide +kernel⟩
theorem ok_ckv {f : Addr} {fd : FuncData} (F : Fun K "check_votes" "check_votes" sCkVotes f fd) (T : Cst mg) (MV : Mak P w K mg base "NoVotes" CV) (MN : Mak P w K mg base "NoNeed" CN) (D1 : Df P w K mg base 2 "is_within" ["value", "least", "most"] spW) (D2 : Df P w K mg base 3 "is_votes" ["value"] (spIsV K)) : FnOk P w K mg base (L2.CX P w) 4 f fd ["votes", "need"] (spCkV K CV CN) := by
  obtain ⟨e1, fd1, G1, m1, k1, b1⟩ := D1.ex
  obtain ⟨e2, fd2, G2, m2, k2, b2⟩ := D2.ex
  obtain ⟨fV, fdV, TV, GV, bV⟩ := MV.ex
  obtain ⟨fN, fdN, TN, GN, bN⟩ := MN.ex
  refine F.okX scCkV (fun vs H Q E h => ?_) (fun cdv A outer s H vs Q E hr h => ?_)
  · obtain ⟨v, n, rfl, _⟩ := h
    rfl
  · obtain ⟨v, n, rfl, o, hz, r1, g⟩ := h
    refine ⟨_, pss_cons (ps_if (pt_not (pt_val (pe_call G2 hr (by rfl) m2 k2 b2 .nil pass0 (pa_cons (pv 0) pa_nil))))
        (pss_one (ps_raise rfl (takes_of rfl rfl rfl rfl) (pmk_oex TV.ox TV.iC TV.tI GV (hr.mono (by decide)) bV .nil pass0 (by rfl) TV.gC (pa_cons (pv 0) pa_nil)))) pss_nil)
      (pss_one (ps_if (pt_not (pt_val (pe_call G1 (hr.mono (by decide)) (by rfl) m1 k1 b1 .nil pass0 (pa_cons (pv 1) (pa_cons pe_int (pa_cons (pe_callB (cr_sumT rfl) (by rfl) T.sum_ (by decide +kernel) (pa_cons (pv 0) pa_nil)) pa_nil))))))
        (pss_one (ps_raise rfl (takes_of rfl rfl rfl rfl) (pmk_oex TN.ox TN.iC TN.tI GN (hr.mono (by decide)) bN .nil pass0 (by rfl) TN.gC (pa_cons (pv 1) pa_nil)))) pss_nil)), ?_⟩
    refine ⟨v, rfl, v, o, rfl, hz, fun G s1 => ⟨_, rfl, ?_⟩⟩
    refine ite2 (fun e => raised_v TV.ox TV.no rfl ((r1 (by simpa using e)).same s1)) fun e => ?_
    obtain ⟨a, vts, rfl, ha, d, nv, r2, g2⟩ := g (by simpa using e)
    refine ⟨n, rfl, _, rfl, a, vts, rfl, SqT.of (s1 _ _ ha), n, d, 1, vts.sum, rfl, nv.same s1, ⟨_, rfl, ?_⟩⟩
    refine ite2 (fun e => raised_v TN.ox TN.no rfl ((r2 (by simpa using e)).same s1)) fun e => g2 (by simpa using e) G s1
theorem scCkU : FnScope ["unruly", "count"] ["unruly", "count"] (defScope sCkUnruly) := ⟨rfl, rfl, rfl, by decide +kernel, rfl, by decide +kernel, by decide +kernel⟩
theorem ok_cku {f : Addr} {fd : FuncData} (F : Fun K "check_unruly" "check_unruly" sCkUnruly f fd) (M : Mak P w K mg base "NoCount" CC) (D1 : Df P w K mg base 2 "is_within" ["value", "least", "most"] spW) : FnOk P w K mg base (L2.CX P w) 3 f fd ["unruly", "count"] (spCkU CC) := by
  obtain ⟨e1, fd1, G1, m1, k1, b1⟩ := D1.ex
  obtain ⟨fI, fdI, TE, GI, bI⟩ := M.ex
  refine F.okX scCkU (fun vs H Q E h => ?_) (fun cdv A outer s H vs Q E hr h => ?_)
  · obtain ⟨v, d, n, rfl, _⟩ := h
    rfl
  · obtain ⟨v, d, n, rfl, hd, q1, q2⟩ := h
    refine ⟨_, pss_one (ps_if (pt_not (pt_val (pe_call G1 hr (by rfl) m1 k1 b1 .nil pass0 (pa_cons (pv 0) (pa_cons pe_int (pa_cons (pv 1) pa_nil))))))
      (pss_one (ps_raise rfl (takes_of rfl rfl rfl rfl) (pmk_oex TE.ox TE.iC TE.tI GI (hr.mono (by decide)) bI .nil pass0 (by rfl) TE.gC (pa_cons (pv 0) pa_nil)))) pss_nil), ?_⟩
    refine ⟨v, rfl, _, rfl, v, d, 0, n, rfl, hd, ⟨_, rfl, ?_⟩⟩
    refine ite2 (fun e => raised_v TE.ox TE.no rfl (q1 (by simpa using e))) fun e => q2 (by simpa using e)
theorem scVof : FnScope nVO ["votes", "lot"] (defScope sVotesOf) := ⟨rfl, rfl, rfl, by decide +kernel, rfl, by decide +kernel, by decide +kernel⟩
theorem ok_vof {f : Addr} {fd : FuncData} (F : Fun K "votes_of" "votes_of" sVotesOf f fd) (T : Cst mg) : FnOk P w K mg base CX0 1 f fd ["votes", "lot"] spVof := by
  refine F.ok scVof (fun vs H Q E h => ?_) (fun cdv A outer s0 H vs Q E hr h => ?_)
  · obtain ⟨a, b, v, l, rfl, _⟩ := h
    rfl
  · obtain ⟨a, b, v, l, rfl, ha, hb, rn, ll, q⟩ := h
    refine ⟨_, pss_one (ps_ret (pe_callB (cr_sum rfl) (by rfl) T.sum_ (by decide +kernel) (pa_cons (pe_lc (own := [("copy", 2)]) (g := gName 2) (tt := tYes) rfl scVof.nd (pi_or (pi_list (pv 1)) (pi_tup (pv 1))) (blkOk_by (own := [("copy", 2)]) (N := nVO) (sc := defScope sVotesOf) (by decide +kernel))
          (fun _ _ _ _ _ => pg_name (i := 2) scVof.nd rfl (Or.inl rfl)) (fun _ _ _ _ _ => pts_nil) (fun _ _ _ _ _ => pe_ix (show IxR _ (rIxT K) from ix_tup) (pv 0) (pv 2) (fun _ _ => rfl))) pa_nil))), ?_⟩
    rcases hb with hb | hb
    · refine .inl ⟨_, rfl, b, rfl, ⟨_, SqL.of hb⟩, fun D hD => ?_⟩
      refine walk_core (walk_list (K := K) (a := b) (xs := l.map V.int)) (fun i G => Same H G ∧ G D = some (.lst (((l.take i).map (vt v)).map V.int))) ⟨same_up hD, upd_same⟩ (fun _ _ _ g => SqL.of (g.1 _ _ hb)) ?_ ?_
      · rintro i y G G' hi ⟨s1, hD1⟩ ⟨rfl, hy⟩
        obtain ⟨x, hx, rfl⟩ := zV_get hy
        have hr := rn x (List.mem_of_getElem? hx)
        obtain ⟨z, ez⟩ : ∃ z, v[x.toNat]? = some z := ⟨_, List.getElem?_eq_getElem (by omega)⟩
        have ev : vt v x = z := by
          unfold vt
          rw [List.getD_eq_getElem?_getD, ez]
          rfl
        refine ⟨rfl, _, rfl, _, rfl, a, _, x, .int z, rfl, rfl, SqT.of (s1 _ _ ha), ?_, ?_⟩
        · obtain ⟨j, rfl⟩ : ∃ j : Nat, x = j := ⟨x.toNat, by omega⟩
          exact atI_nat (by rw [List.getElem?_map, show v[j]? = some z from ez]; rfl)
        · refine ⟨_, hD1, small1000 (by rw [List.length_map, List.length_map, List.length_take]; omega), sup hD s1, ?_⟩
          rw [upd_same, take_next1 hx, List.map_append, List.map_append, List.map_singleton, List.map_singleton, ev]
      · rintro G ⟨s1, hD1⟩
        rw [List.length_map, List.take_length] at hD1
        exact ⟨D, _, rfl, SqL.of hD1, q G s1⟩
    · refine .inr ⟨_, rfl, b, rfl, ⟨_, SqT.of hb⟩, fun D hD => ?_⟩
      refine walk_core (walk_tup (K := K) (a := b) (xs := l.map V.int)) (fun i G => Same H G ∧ G D = some (.lst (((l.take i).map (vt v)).map V.int))) ⟨same_up hD, upd_same⟩ (fun _ _ _ g => SqT.of (g.1 _ _ hb)) ?_ ?_
      · rintro i y G G' hi ⟨s1, hD1⟩ ⟨rfl, hy⟩
        obtain ⟨x, hx, rfl⟩ := zV_get hy
        have hr := rn x (List.mem_of_getElem? hx)
        obtain ⟨z, ez⟩ : ∃ z, v[x.toNat]? = some z := ⟨_, List.getElem?_eq_getElem (by omega)⟩
        have ev : vt v x = z := by
          unfold vt
          rw [List.getD_eq_getElem?_getD, ez]
          rfl
        refine ⟨rfl, _, rfl, _, rfl, a, _, x, .int z, rfl, rfl, SqT.of (s1 _ _ ha), ?_, ?_⟩
        · obtain ⟨j, rfl⟩ : ∃ j : Nat, x = j := ⟨x.toNat, by omega⟩
          exact atI_nat (by rw [List.getElem?_map, show v[j]? = some z from ez]; rfl)
        · refine ⟨_, hD1, small1000 (by rw [List.length_map, List.length_map, List.length_take]; omega), sup hD s1, ?_⟩
          rw [upd_same, take_next1 hx, List.map_append, List.map_append, List.map_singleton, List.map_singleton, ev]
      · rintro G ⟨s1, hD1⟩
        rw [List.length_map, List.take_length] at hD1
        exact ⟨D, _, rfl, SqL.of hD1, q G s1⟩
theorem scLotsOf : FnScope ["count"] ["count"] (defScope sLotsOf) := ⟨rfl, rfl, rfl, by decide +kernel, rfl, by decide +kernel, by decide +kernel⟩
theorem ok_lotsof {f : Addr} {fd : FuncData} (F : Fun K "_lots_of" "_lots_of" sLotsOf f fd) (T : Cst mg) (D1 : Df P w K mg base 3 "all_lots" ["copies"] (spParts Tb)) : FnOk P w K mg base CX0 4 f fd ["count"] (spLotsOf Tb) := by
  obtain ⟨e1, fd1, G1, m1, k1, b1⟩ := D1.ex
  refine F.ok scLotsOf (fun vs H Q E h => ?_) (fun cdv A outer s0 H vs Q E hr h => ?_)
  · obtain ⟨n, rfl, _⟩ := h
    rfl
  · obtain ⟨n, rfl, n0, n5, hT, q⟩ := h
    refine ⟨_, pss_one (ps_ret (pe_call G1 hr (by rfl) m1 k1 b1 .nil pass0 (pa_cons (pe_listRg rfl (by rfl) T.tlst (prg_1 (by rfl) T.rng (pv 0))) pa_nil))), ?_⟩
    refine ⟨_, rfl, _, rfl, .of_le (by omega) (by omega) (by omega) (by omega), fun l hl => ?_⟩
    rw [rgV_rgZ]
    have s2 := same_up (o := .lst ((rgZ n).map V.int)) hl
    have fl : upd H l (.lst ((rgZ n).map V.int)) l = some (.lst ((rgZ n).map V.int)) := upd_same
    generalize upd H l (.lst ((rgZ n).map V.int)) = Gb at s2 fl ⊢
    exact ⟨l, rgZ n, rfl, .inr fl, by rw [rgZ_len]; omega, hT.ext s2, fun p PL Gc eN tN hPL ePL => q p PL Gc ((LamX.ExtN.of s2).trans eN) tN hPL ePL⟩
end
end Pl

namespace Pl
open L2 PySem PySem.Spec PyProof.Rows RZ
theorem rI0_to {g : Int → Int → V} {i j : Int} {v : V} {H : Hp} {Q : VK} (e : g i j = v) (q : Q v H) : rI0 g (.int i) (.int j) H Q := ⟨i, j, rfl, rfl, e ▸ q⟩
theorem heavy_mem {v l : Z} {u : Nat} {x : Int} (h : x ∈ heavy v u l) : x ∈ l := (List.mergeSort_perm l (leV v)).mem_iff.mp (List.mem_of_mem_take h)
theorem heavy_len (v l : Z) (u : Nat) : (heavy v u l).length ≤ l.length := by
  unfold heavy
  rw [List.length_take, List.length_mergeSort]
  exact Nat.min_le_right _ _
theorem cut_head (xs : List V) (u : Nat) : cutV xs none (some (u : Int)) = xs.take u := by
  unfold cutV
  rw [HT.sIx_none, HT.sIx_nat xs.length xs.length u, List.drop_zero, Nat.sub_zero]
  by_cases h : u ≤ xs.length
  · rw [Nat.min_eq_left h]
  · rw [Nat.min_eq_right (by omega), List.take_length, List.take_of_length_le (by omega)]
/-- votes, a number of unruly ones and a lot -/
structure Vl (v : Z) (u : Int) (l : Z) : Prop where
  vk : Vok v
  u0 : 0 ≤ u
  u5 : u ≤ 5
  lo : Lot v.length l
theorem Vl.ix {v : Z} {u : Int} {l : Z} (h : Vl v u l) : ∀ x ∈ l, 0 ≤ x ∧ x < v.length := h.lo.2
theorem Vl.len {v : Z} {u : Int} {l : Z} (h : Vl v u l) : l.length ≤ 5 := (h.lo.mono (by have := h.vk.len; omega)).len
def spHeavy (Tb : TbL) : Sp := fun vs H Q _ => ∃ (a b : Addr) (v l : Z) (u : Int), vs = [.ref a, .int u, .ref b] ∧ H a = some (.tup (v.map V.int)) ∧ H b = some (.tup (l.map V.int)) ∧ Vl v u l ∧ LamX.Tabs Tb H ∧ ∀ p G, LamX.ExtN H G → LamX.Tabs Tb G → G p = some (.lst ((heavy v u.toNat l).map V.int)) → Q (.ref p) G
def spSure (Tb : TbL) : Sp := fun vs H Q _ => ∃ (a b : Addr) (v l : Z) (u : Int), vs = [.ref a, .int u, .ref b] ∧ H a = some (.tup (v.map V.int)) ∧ H b = some (.tup (l.map V.int)) ∧ Vl v u l ∧ LamX.Tabs Tb H ∧ ∀ G, LamX.ExtN H G → LamX.Tabs Tb G → Q (.int (sureP v u.toNat l)) G
def spHasE (Tb : TbL) : Sp := fun vs H Q _ => ∃ (a b : Addr) (v l : Z) (n u : Int), vs = [.ref a, .int n, .int u, .ref b] ∧ H a = some (.tup (v.map V.int)) ∧ H b = some (.tup (l.map V.int)) ∧ Vl v u l ∧ LamX.Tabs Tb H ∧ ∀ G, LamX.ExtN H G → LamX.Tabs Tb G → Q (.bl (enoughP v n u.toNat l)) G
/-- what is asked of a lot behind votes and need -/
def CkL (K : PySem.W.Frag) (CL : Addr) (n : Nat) (l : V) (H : Hp) (E : XK) (G : Prop) : Prop := ∃ o, Tz K H l o ∧ (okT n o = false → Rais CL l H E) ∧ (okT n o = true → G)
def CkU (CC : Addr) (n : Nat) (u : V) (H : Hp) (E : XK) (G : Prop) : Prop := ∃ d, Nv H u d ∧ (within d 0 n = false → Rais CC u H E) ∧ (within d 0 n = true → G)
def VtA (H : Hp) (v : V) (vts : Z) : Prop := ∃ a, v = .ref a ∧ H a = some (.tup (vts.map V.int)) ∧ Vok vts
def spIsW (K : PySem.W.Frag) (CV CN CL : Addr) : Sp := fun vs H Q E => ∃ (v n l : V), vs = [v, n, l] ∧ CkV K CV CN v n H E (∃ vts, VtA H v vts ∧ CkL K CL vts.length l H E (∃ (b : Addr) (lt : Z) (nd : Int), l = .ref b ∧ n = .int nd ∧ H b = some (.tup (lt.map V.int)) ∧ Lot vts.length lt ∧ ∀ G, Same H G → Q (.bl (writeP vts nd lt)) G))
def spIsE (K : PySem.W.Frag) (Tb : TbL) (CV CN CC CL : Addr) : Sp := fun vs H Q E => ∃ (v n u l : V), vs = [v, n, u, l] ∧ CkV K CV CN v n H E (∃ vts, VtA H v vts ∧ CkU CC vts.length u H E (CkL K CL vts.length l H E (∃ (b : Addr) (lt : Z) (nd un : Int), l = .ref b ∧ n = .int nd ∧ u = .int un ∧ H b = some (.tup (lt.map V.int)) ∧ Vl vts un lt ∧ LamX.Tabs Tb H ∧ ∀ G, LamX.ExtN H G → LamX.Tabs Tb G → Q (.bl (enoughP vts nd un.toNat lt)) G)))
def spEs (K : PySem.W.Frag) (Tb : TbL) (CV CN CC : Addr) : Sp := fun vs H Q E => ∃ (v n u : V), vs = [v, n, u] ∧ CkV K CV CN v n H E (∃ vts, VtA H v vts ∧ CkU CC vts.length u H E (∃ (nd un : Int), n = .int nd ∧ u = .int un ∧ 0 ≤ un ∧ un ≤ 5 ∧ LamX.Tabs Tb H ∧ ∀ p L G, LamX.ExtN H G → LamX.Tabs Tb G → Lots G p L → L.map (·.2) = (parts (rgZ vts.length)).filter (enoughP vts nd un.toNat) → Q (.ref p) G))
def spWs (K : PySem.W.Frag) (Tb : TbL) (CV CN : Addr) : Sp := fun vs H Q E => ∃ (v n : V), vs = [v, n] ∧ CkV K CV CN v n H E (∃ vts, VtA H v vts ∧ ∃ (nd : Int), n = .int nd ∧ LamX.Tabs Tb H ∧ ∀ p L G, LamX.ExtN H G → LamX.Tabs Tb G → Lots G p L → L.map (·.2) = (parts (rgZ vts.length)).filter (writeP vts nd) → Q (.ref p) G)
abbrev psVUL : List Str := ["votes", "unruly", "lot"]
abbrev psVNUL : List Str := ["votes", "need", "unruly", "lot"]
theorem ext_tp {H G : Hp} {a : Addr} {xs : List V} (x : LamX.ExtN H G) (h : H a = some (.tup xs)) : G a = some (.tup xs) := x _ _ h fun _ q => by cases q
theorem ext_at {H G : Hp} {a : Addr} {xs : List V} (x : LamX.ExtN H G) (h : H a = some (.lst xs)) : G a = some (.lst xs) := x _ _ h fun _ q => by cases q
section
variable {P : Program} {K : PySem.W.Frag} {w : World} {base : Heap} {mg : Str → Option Value} {CV CN CC CL c Pt : Addr} {Tb : TbL}
theorem scHeavy : FnScope psVUL psVUL (defScope sHeavy) := ⟨rfl, rfl, rfl, by decide +kernel, rfl, by decide +kernel, by decide +kernel⟩
theorem ok_heavy {f : Addr} {fd : FuncData} (F : FunC K "_heaviest" "_heaviest" sHeavy f c fd) (T : Cst mg) (TB : LamX.TabB base mg c Pt) (hT : (Pt, lamH) ∈ Tb) (hT1 : ∀ p ∈ Tb, p.1 = Pt → p.2 = lamH) : FnOk P w K mg base CX0 3 f fd psVUL (spHeavy Tb) := by
  refine okC1 F scHeavy (fun vs H Q E h => ?_) (fun A outer s0 H vs Q E hr h => ?_)
  · obtain ⟨a, b, v, l, u, rfl, _⟩ := h
    rfl
  · obtain ⟨a, b, v, l, u, rfl, ha, hb, vl, hTb, q⟩ := h
    refine ⟨_, pss_one (ps_ret (pe_slice sl_list (pe_sortV (i := 0) (c := c) (P := Pt) ⟨rfl, rfl, rfl, rfl, fun _ _ _ _ _ _ => rfl, ⟨_, _, _, _, _, _, _, rfl⟩⟩ (by rfl) T.srt (pv 2) TB hT hT1 rfl (hr.mono (by decide)) rfl rfl) po_none (po_some (pv 1)))), ?_⟩
    refine ⟨a, v, rfl, ha, by have := vl.vk.len; omega, _, rfl, fun _ _ e => e, hTb, b, l, rfl, hb, fun x hx => ?_, fun H2 p eN T2 hp => ?_⟩
    · have := vl.ix x hx
      omega
    · refine noPart ?_
      have s2 := same_up (o := .lst ((l.mergeSort (leV v)).map V.int)) hp
      have f2 : upd H2 p (.lst ((l.mergeSort (leV v)).map V.int)) p = some (.lst ((l.mergeSort (leV v)).map V.int)) := upd_same
      generalize upd H2 p (.lst ((l.mergeSort (leV v)).map V.int)) = G2 at s2 f2 ⊢
      refine ⟨_, rfl, u, rfl, p, _, rfl, SqL.of f2, fun p2 hp2 => ?_⟩
      have s3 := s2.trans (same_up (o := .lst (cutV ((l.mergeSort (leV v)).map V.int) none (some u))) hp2)
      refine q p2 _ (eN.trans (LamX.ExtN.of s3)) (T2.ext s3) ?_
      obtain ⟨k, rfl⟩ : ∃ k : Nat, u = k := ⟨u.toNat, by have := vl.u0; omega⟩
      rw [upd_same, cut_head, ← List.map_take]
      rfl
theorem scSure : FnScope psVUL psVUL (defScope sSure) := ⟨rfl, rfl, rfl, by decide +kernel, rfl, by decide +kernel, by decide +kernel⟩
theorem ok_sure {f : Addr} {fd : FuncData} (F : Fun K "_sure_votes" "_sure_votes" sSure f fd) (D1 : Df P w K mg base 1 "votes_of" ["votes", "lot"] spVof) (D2 : Df P w K mg base 3 "_heaviest" psVUL (spHeavy Tb)) : FnOk P w K mg base CX0 4 f fd psVUL (spSure Tb) := by
  obtain ⟨e1, fd1, G1, m1, k1, b1⟩ := D1.ex
  obtain ⟨e2, fd2, G2, m2, k2, b2⟩ := D2.ex
  refine F.ok scSure (fun vs H Q E h => ?_) (fun cdv A outer s0 H vs Q E hr h => ?_)
  · obtain ⟨a, b, v, l, u, rfl, _⟩ := h
    rfl
  · obtain ⟨a, b, v, l, u, rfl, ha, hb, vl, hTb, q⟩ := h
    refine ⟨_, pss_one (ps_ret (pe_op op_sub (pe_call G1 (hr.mono (by decide)) (by rfl) m1 k1 b1 .nil pass0 (pa_cons (pv 0) (pa_cons (pv 2) pa_nil)))
      (pe_call G1 (hr.mono (by decide)) (by rfl) m1 k1 b1 .nil pass0 (pa_cons (pv 0) (pa_cons (pe_call G2 hr (by rfl) m2 k2 b2 .nil pass0 (pa_cons (pv 0) (pa_cons (pv 1) (pa_cons (pv 2) pa_nil)))) pa_nil))))), ?_⟩
    have l5 := vl.len
    refine ⟨_, rfl, _, rfl, a, b, v, l, rfl, ha, .inr hb, vl.ix, by omega, fun G1' s1 => ?_⟩
    refine ⟨_, rfl, _, rfl, _, rfl, _, rfl, a, b, v, l, u, rfl, s1 _ _ ha, s1 _ _ hb, vl, hTb.ext s1, fun p G eN tN hp => ?_⟩
    have e1 := (LamX.ExtN.of s1).trans eN
    refine ⟨a, p, v, heavy v u.toNat l, rfl, ext_tp e1 ha, .inl hp, fun x hx => vl.ix x (heavy_mem hx), Nat.le_trans (heavy_len _ _ _) (by omega), fun G2' s2 => ?_⟩
    exact rI0_to (v := V.int (sureP v u.toNat l)) rfl (q _ (e1.trans (LamX.ExtN.of s2)) (tN.ext s2))
theorem scHasE : FnScope psVNUL psVNUL (defScope sHasEn) := ⟨rfl, rfl, rfl, by decide +kernel, rfl, by decide +kernel, by decide +kernel⟩
theorem ok_hase {f : Addr} {fd : FuncData} (F : Fun K "_has_enough" "_has_enough" sHasEn f fd) (T : Cst mg) (D1 : Df P w K mg base 4 "_sure_votes" psVUL (spSure Tb)) : FnOk P w K mg base CX0 5 f fd psVNUL (spHasE Tb) := by
  obtain ⟨e1, fd1, G1, m1, k1, b1⟩ := D1.ex
  refine F.ok scHasE (fun vs H Q E h => ?_) (fun cdv A outer s0 H vs Q E hr h => ?_)
  · obtain ⟨a, b, v, l, n, u, rfl, _⟩ := h
    rfl
  · obtain ⟨a, b, v, l, n, u, rfl, ha, hb, vl, hTb, q⟩ := h
    refine ⟨_, pss_one (ps_ret (pe_cmpR op_gt (pe_call G1 hr (by rfl) m1 k1 b1 .nil pass0 (pa_cons (pv 0) (pa_cons (pv 2) (pa_cons (pv 3) pa_nil)))) (pe_op op_sub (pe_callB (cr_sumT rfl) (by rfl) T.sum_ (by decide +kernel) (pa_cons (pv 0) pa_nil)) (pv 1)) (nomark _))), ?_⟩
    refine ⟨_, rfl, _, rfl, _, rfl, a, b, v, l, u, rfl, ha, hb, vl, hTb, fun G eN tN => ?_⟩
    refine ⟨_, rfl, a, v, rfl, SqT.of (ext_tp eN ha), _, rfl, rI0_to rfl (rI0_to (v := V.bl (enoughP v n u.toNat l)) rfl (q G eN tN))⟩
theorem scIsW : FnScope ["votes", "need", "lot"] ["votes", "need", "lot"] (defScope sIsWrite) := ⟨rfl, rfl, rfl, by decide +kernel, rfl, by decide +kernel, by decide +kernel⟩
theorem ok_isw {f : Addr} {fd : FuncData} (F : Fun K "is_write_lot" "is_write_lot" sIsWrite f fd) (T : Cst mg) (D1 : DfX P w K mg base 4 "check_votes" ["votes", "need"] (spCkV K CV CN)) (D2 : DfX P w K mg base 4 "check_lot" ["lot", "count"] (spCkLot K CL)) (D3 : Df P w K mg base 1 "votes_of" ["votes", "lot"] spVof) : FnOk P w K mg base (L2.CX P w) 5 f fd ["votes", "need", "lot"] (spIsW K CV CN CL) := by
  obtain ⟨e1, fd1, G1, m1, k1, b1⟩ := D1.ex
  obtain ⟨e2, fd2, G2, m2, k2, b2⟩ := D2.ex
  obtain ⟨e3, fd3, G3, m3, k3, b3⟩ := D3.ex
  refine F.okX scIsW (fun vs H Q E h => ?_) (fun cdv A outer s H vs Q E hr h => ?_)
  · obtain ⟨v, n, l, rfl, _⟩ := h
    rfl
  · obtain ⟨v, n, l, rfl, o, hz, r1, g⟩ := h
    refine ⟨_, pss_cons (ps_expr (pe_call (E := E) G1 hr (by rfl) m1 k1 b1 .nil (passes_call (takes_of rfl rfl rfl rfl) fun _ _ _ _ h => h) (pa_cons (pv 0) (pa_cons (pv 1) pa_nil))))
      (pss_cons (ps_expr (pe_call (E := E) G2 hr (by rfl) m2 k2 b2 .nil (passes_call (takes_of rfl rfl rfl rfl) fun _ _ _ _ h => h) (pa_cons (pv 2) (pa_cons (pe_callB (show CallR _ (.builtin "len") (rLenQ K) from call_len_seq) (by rfl) T.len PySem.boot_len (pa_cons (pv 0) pa_nil)) pa_nil))))
      (pss_one (ps_ret (pe_cmpR op_ge (pe_call G3 (hr.mono (by decide)) (by rfl) m3 k3 b3 .nil pass0 (pa_cons (pv 0) (pa_cons (pv 2) pa_nil))) (pv 1) (nomark _))))), ?_⟩
    refine ⟨v, rfl, n, rfl, v, n, rfl, o, hz, r1, fun ov => ?_⟩
    obtain ⟨a0, v0, rfl, ha0, d, nv, r2, g2⟩ := g ov
    refine ⟨a0, v0, rfl, ha0, d, nv, r2, fun wi Ga s1 => ?_⟩
    obtain ⟨vts, ⟨a, ea, ha, vk⟩, o2, tz, bad, good⟩ := g2 wi
    cases ea
    refine ⟨l, rfl, _, rfl, a0, _, rfl, .inr (SqT.of (s1 _ _ ha)), l, _, o2, rfl, tz.same s1, fun ok Gb s2 => ?_, fun no => ?_⟩
    · rw [List.length_map] at ok
      obtain ⟨b, lt, nd, rfl, rfl, hb, lo, q⟩ := good ok
      have s12 := s1.trans s2
      refine ⟨_, rfl, _, rfl, a0, b, vts, lt, rfl, s12 _ _ ha, .inr (s12 _ _ hb), lo.2, ?_, fun Gc s3 => ?_⟩
      · have := (lo.mono (m := 5) (by have := vk.len; omega)).len
        omega
      · exact ⟨_, rfl, rI0_to (v := V.bl (writeP vts nd lt)) rfl (q Gc (s12.trans s3))⟩
    · rw [List.length_map] at no
      exact (bad no).same s1
theorem scIsE : FnScope psVNUL psVNUL (defScope sIsEnough) := ⟨rfl, rfl, rfl, by decide +kernel, rfl, by decide +kernel, by decide +kernel⟩
theorem ok_ise {f : Addr} {fd : FuncData} (F : Fun K "is_enough" "is_enough" sIsEnough f fd) (T : Cst mg) (D1 : DfX P w K mg base 4 "check_votes" ["votes", "need"] (spCkV K CV CN)) (D2 : DfX P w K mg base 4 "check_lot" ["lot", "count"] (spCkLot K CL)) (D3 : DfX P w K mg base 3 "check_unruly" ["unruly", "count"] (spCkU CC)) (D4 : Df P w K mg base 5 "_has_enough" psVNUL (spHasE Tb)) : FnOk P w K mg base (L2.CX P w) 6 f fd psVNUL (spIsE K Tb CV CN CC CL) := by
  obtain ⟨e1, fd1, G1, m1, k1, b1⟩ := D1.ex
  obtain ⟨e2, fd2, G2, m2, k2, b2⟩ := D2.ex
  obtain ⟨e3, fd3, G3, m3, k3, b3⟩ := D3.ex
  obtain ⟨e4, fd4, G4, m4, k4, b4⟩ := D4.ex
  refine F.okX scIsE (fun vs H Q E h => ?_) (fun cdv A outer s H vs Q E hr h => ?_)
  · obtain ⟨v, n, u, l, rfl, _⟩ := h
    rfl
  · obtain ⟨v, n, u, l, rfl, o, hz, r1, g⟩ := h
    refine ⟨_, pss_cons (ps_expr (pe_call (E := E) G1 (hr.mono (by decide)) (by rfl) m1 k1 b1 .nil (passes_call (takes_of rfl rfl rfl rfl) fun _ _ _ _ h => h) (pa_cons (pv 0) (pa_cons (pv 1) pa_nil))))
      (pss_cons (ps_expr (pe_call (E := E) G3 (hr.mono (by decide)) (by rfl) m3 k3 b3 .nil (passes_call (takes_of rfl rfl rfl rfl) fun _ _ _ _ h => h) (pa_cons (pv 2) (pa_cons (pe_callB (show CallR _ (.builtin "len") (rLenQ K) from call_len_seq) (by rfl) T.len PySem.boot_len (pa_cons (pv 0) pa_nil)) pa_nil))))
      (pss_cons (ps_expr (pe_call (E := E) G2 (hr.mono (by decide)) (by rfl) m2 k2 b2 .nil (passes_call (takes_of rfl rfl rfl rfl) fun _ _ _ _ h => h) (pa_cons (pv 3) (pa_cons (pe_callB (show CallR _ (.builtin "len") (rLenQ K) from call_len_seq) (by rfl) T.len PySem.boot_len (pa_cons (pv 0) pa_nil)) pa_nil))))
      (pss_one (ps_ret (pe_call G4 hr (by rfl) m4 k4 b4 .nil pass0 (pa_cons (pv 0) (pa_cons (pv 1) (pa_cons (pv 2) (pa_cons (pv 3) pa_nil))))))))), ?_⟩
    refine ⟨v, rfl, n, rfl, v, n, rfl, o, hz, r1, fun ov => ?_⟩
    obtain ⟨a0, v0, rfl, ha0, d, nv, r2, g2⟩ := g ov
    refine ⟨a0, v0, rfl, ha0, d, nv, r2, fun wi Ga s1 => ?_⟩
    obtain ⟨vts, ⟨a, ea, ha, vk⟩, du, nu, badU, goodU⟩ := g2 wi
    cases ea
    refine ⟨u, rfl, _, rfl, a0, _, rfl, .inr (SqT.of (s1 _ _ ha)), u, du, _, rfl, nu.same s1, fun no => ?_, fun okU => ?_⟩
    · rw [List.length_map] at no
      exact (badU no).same s1
    rw [List.length_map] at okU
    obtain ⟨o2, tz, bad, good⟩ := goodU okU
    refine ⟨l, rfl, _, rfl, a0, _, rfl, .inr (SqT.of (s1 _ _ ha)), l, _, o2, rfl, tz.same s1, fun ok Gb s2 => ?_, fun no => ?_⟩
    · rw [List.length_map] at ok
      obtain ⟨b, lt, nd, un, rfl, rfl, rfl, hb, vl, hT, q⟩ := good ok
      have s12 := s1.trans s2
      exact ⟨_, rfl, _, rfl, _, rfl, _, rfl, a0, b, vts, lt, nd, un, rfl, s12 _ _ ha, s12 _ _ hb, vl, hT.ext s12, fun Gc e3 t3 => q Gc ((LamX.ExtN.of s12).trans e3) t3⟩
    · rw [List.length_map] at no
      exact (bad no).same s1
abbrev nES : List Str := ["votes", "need", "unruly", "lot"]
abbrev nWS : List Str := ["votes", "need", "lot"]
/-- a turn of [lot for lot in lots if p(lot)] -/
theorem pick_yes {H G : Hp} {D : Addr} {L : List AT} {i : Nat} {q : AT} {p : AT → Bool} {R : Hp → Prop} (hD : H D = none) (s : LamX.ExtN H G) (h : G D = some (.lst (refs ((L.take i).filter p)))) (l : L.length ≤ 64) (hq : L[i]? = some q) (y : p q = true) (r : LamX.ExtN H (upd G D (.lst (refs ((L.take (i + 1)).filter p)))) → R (upd G D (.lst (refs ((L.take (i + 1)).filter p))))) :
    ∃ ac, G D = some (.lst ac) ∧ ac.length < sizeLine ∧ R (upd G D (.lst (ac ++ [.ref q.1]))) := by
  have fs := filt_snoc hq p
  rw [if_pos y] at fs
  refine ⟨_, h, small1000 (by rw [refs_len]; exact Nat.le_trans (filt_len L i _) (by omega)), ?_⟩
  have e : refs ((L.take i).filter p) ++ [V.ref q.1] = refs ((L.take (i + 1)).filter p) := by
    rw [fs, refs_app]
    rfl
  rw [e]
  exact r (ext_upd s fun b o hb _ => ne_of_none hb hD)
theorem scEs : FnScope nES ["votes", "need", "unruly"] (defScope sEnoughs) := ⟨rfl, rfl, rfl, by decide +kernel, rfl, by decide +kernel, by decide +kernel⟩
theorem ok_es {f : Addr} {fd : FuncData} (F : Fun K "enough_lots" "enough_lots" sEnoughs f fd) (T : Cst mg) (D1 : DfX P w K mg base 4 "check_votes" ["votes", "need"] (spCkV K CV CN)) (D3 : DfX P w K mg base 3 "check_unruly" ["unruly", "count"] (spCkU CC)) (D4 : Df P w K mg base 5 "_has_enough" psVNUL (spHasE Tb)) (D5 : Df P w K mg base 4 "_lots_of" ["count"] (spLotsOf Tb)) : FnOk P w K mg base (L2.CX P w) 6 f fd ["votes", "need", "unruly"] (spEs K Tb CV CN CC) := by
  obtain ⟨e1, fd1, G1, m1, k1, b1⟩ := D1.ex
  obtain ⟨e3, fd3, G3, m3, k3, b3⟩ := D3.ex
  obtain ⟨e4, fd4, G4, m4, k4, b4⟩ := D4.ex
  obtain ⟨e5, fd5, G5, m5, k5, b5⟩ := D5.ex
  refine F.okX scEs (fun vs H Q E h => ?_) (fun cdv A outer s H vs Q E hr h => ?_)
  · obtain ⟨v, n, u, rfl, _⟩ := h
    rfl
  · obtain ⟨v, n, u, rfl, o, hz, r1, g⟩ := h
    refine ⟨_, pss_cons (ps_expr (pe_call (E := E) G1 (hr.mono (by decide)) (by rfl) m1 k1 b1 .nil (passes_call (takes_of rfl rfl rfl rfl) fun _ _ _ _ h => h) (pa_cons (pv 0) (pa_cons (pv 1) pa_nil))))
      (pss_cons (ps_expr (pe_call (E := E) G3 (hr.mono (by decide)) (by rfl) m3 k3 b3 .nil (passes_call (takes_of rfl rfl rfl rfl) fun _ _ _ _ h => h) (pa_cons (pv 2) (pa_cons (pe_callB (show CallR _ (.builtin "len") (rLenQ K) from call_len_seq) (by rfl) T.len PySem.boot_len (pa_cons (pv 0) pa_nil)) pa_nil))))
      (pss_one (ps_ret (pe_lc (own := [("lot", 3)]) (g := gName 3) (tt := _) rfl scEs.nd (pi_list (pe_call G5 (hr.mono (by decide)) (by rfl) m5 k5 b5 .nil pass0 (pa_cons (pe_callB (show CallR _ (.builtin "len") (rLenQ K) from call_len_seq) (by rfl) T.len PySem.boot_len (pa_cons (pv 0) pa_nil)) pa_nil))) (blkOk_by (own := [("lot", 3)]) (N := nES) (sc := defScope sEnoughs) (by decide +kernel))
          (fun _ _ _ _ _ => pg_name (i := 3) scEs.nd rfl (Or.inl rfl)) (fun _ _ _ _ _ => pts_one (pt_val (pe_call G4 (hr.mono (by decide)) (by rfl) m4 k4 b4 .nil pass0 (pa_cons (pv 0) (pa_cons (pv 1) (pa_cons (pv 2) (pa_cons (pv 3) pa_nil))))))) (fun _ _ _ _ _ => pv 3))))), ?_⟩
    refine ⟨v, rfl, n, rfl, v, n, rfl, o, hz, r1, fun ov => ?_⟩
    obtain ⟨a0, v0, rfl, ha0, d, nv, r2, g2⟩ := g ov
    refine ⟨a0, v0, rfl, ha0, d, nv, r2, fun wi Ga s1 => ?_⟩
    obtain ⟨vts, ⟨a, ea, ha, vk⟩, du, nu, badU, goodU⟩ := g2 wi
    cases ea
    refine ⟨u, rfl, _, rfl, a0, _, rfl, .inr (SqT.of (s1 _ _ ha)), u, du, _, rfl, nu.same s1, fun no => ?_, fun okU => ?_⟩
    · rw [List.length_map] at no
      exact (badU no).same s1
    rw [List.length_map] at okU
    obtain ⟨nd, un, rfl, rfl, u0, u5, hT, q⟩ := goodU okU
    have l5 := vk.len
    refine ⟨_, rfl, a0, _, rfl, .inr (SqT.of (s1 _ _ ha)), _, rfl, by rw [List.length_map]; omega, by rw [List.length_map]; omega, hT.ext s1, fun p L Gb eN tN hL eL => ?_⟩
    rw [List.length_map] at eL
    have e1 := (LamX.ExtN.of s1).trans eN
    have lL : L.length ≤ 32 := by
      have e := congrArg List.length eL
      rw [List.length_map, (parts_perm _).length_eq, subs_len, rgZ_len] at e
      rw [e]
      exact pow5 (by omega)
    have fL : ∀ q ∈ L, Lot vts.length q.2 := fun q hq => (rgZ_lot _).sub (mem_parts.mp (eL ▸ List.mem_map.mpr ⟨q, hq, rfl⟩))
    refine ⟨p, rfl, ⟨_, SqL.of hL.1⟩, fun D hD => ?_⟩
    refine walk_core (walk_list (K := K) (a := p) (xs := refs L)) (fun i G => LamX.ExtN Gb G ∧ LamX.Tabs Tb G ∧ G D = some (.lst (refs ((L.take i).filter fun q => enoughP vts nd un.toNat q.2)))) ⟨LamX.ExtN.of (same_up hD), tN.ext (same_up hD), upd_same⟩ (fun _ _ _ g => SqL.of (ext_at g.1 hL.1)) ?_ ?_
    · rintro i y G G' hi ⟨e2, t2, hD2⟩ ⟨rfl, hy⟩
      obtain ⟨r, hr', rfl⟩ := refs_get hy
      have rL := List.mem_of_getElem? hr'
      refine ⟨rfl, _, rfl, _, rfl, _, rfl, _, rfl, a0, r.1, vts, r.2, nd, un, rfl, ext_tp (e1.trans e2) ha, ext_tp e2 (hL.2 r rL), ⟨vk, u0, u5, fL r rL⟩, t2, fun G2 e3 t3 => ⟨_, rfl, ?_⟩⟩
      refine ite2 (fun e => ?_) fun e => ?_
      · exact ⟨_, rfl, pick_yes (p := fun q => enoughP vts nd un.toNat q.2) (R := fun G => LamX.ExtN Gb G ∧ LamX.Tabs Tb G ∧ G D = some (.lst (refs ((L.take (i + 1)).filter fun q => enoughP vts nd un.toNat q.2)))) hD (e2.trans e3) (ext_at e3 hD2) (by omega) hr' e fun e4 => ⟨e4, tabs_upd t3 (ext_at e3 hD2), upd_same⟩⟩
      · have fs := filt_snoc hr' (fun q : AT => enoughP vts nd un.toNat q.2)
        rw [if_neg e, List.append_nil] at fs
        exact ⟨e2.trans e3, t3, by rw [fs]; exact ext_at e3 hD2⟩
    · rintro G ⟨e2, t2, hD2⟩
      rw [refs_len, List.take_length] at hD2
      refine q D _ G (e1.trans e2) t2 ⟨hD2, fun r hr => ext_tp e2 (hL.2 r (List.mem_filter.mp hr).1)⟩ ?_
      rw [← eL, List.filter_map]
      rfl
theorem scWs : FnScope nWS ["votes", "need"] (defScope sWrites) := ⟨rfl, rfl, rfl, by decide +kernel, rfl, by decide +kernel, by decide +kernel⟩
theorem ok_ws {f : Addr} {fd : FuncData} (F : Fun K "write_lots" "write_lots" sWrites f fd) (T : Cst mg) (D1 : DfX P w K mg base 4 "check_votes" ["votes", "need"] (spCkV K CV CN)) (D3 : Df P w K mg base 1 "votes_of" ["votes", "lot"] spVof) (D5 : Df P w K mg base 4 "_lots_of" ["count"] (spLotsOf Tb)) : FnOk P w K mg base (L2.CX P w) 5 f fd ["votes", "need"] (spWs K Tb CV CN) := by
  obtain ⟨e1, fd1, G1, m1, k1, b1⟩ := D1.ex
  obtain ⟨e3, fd3, G3, m3, k3, b3⟩ := D3.ex
  obtain ⟨e5, fd5, G5, m5, k5, b5⟩ := D5.ex
  refine F.okX scWs (fun vs H Q E h => ?_) (fun cdv A outer s H vs Q E hr h => ?_)
  · obtain ⟨v, n, rfl, _⟩ := h
    rfl
  · obtain ⟨v, n, rfl, o, hz, r1, g⟩ := h
    refine ⟨_, pss_cons (ps_expr (pe_call (E := E) G1 hr (by rfl) m1 k1 b1 .nil (passes_call (takes_of rfl rfl rfl rfl) fun _ _ _ _ h => h) (pa_cons (pv 0) (pa_cons (pv 1) pa_nil))))
      (pss_one (ps_ret (pe_lc (own := [("lot", 2)]) (g := gName 2) (tt := _) rfl scWs.nd (pi_list (pe_call G5 hr (by rfl) m5 k5 b5 .nil pass0 (pa_cons (pe_callB (show CallR _ (.builtin "len") (rLenQ K) from call_len_seq) (by rfl) T.len PySem.boot_len (pa_cons (pv 0) pa_nil)) pa_nil))) (blkOk_by (own := [("lot", 2)]) (N := nWS) (sc := defScope sWrites) (by decide +kernel))
          (fun _ _ _ _ _ => pg_name (i := 2) scWs.nd rfl (Or.inl rfl)) (fun _ _ _ _ _ => pts_one (pt_cmpR op_ge (pe_call G3 (hr.mono (by decide)) (by rfl) m3 k3 b3 .nil pass0 (pa_cons (pv 0) (pa_cons (pv 2) pa_nil))) (pv 1) (nomark _))) (fun _ _ _ _ _ => pv 2)))), ?_⟩
    refine ⟨v, rfl, n, rfl, v, n, rfl, o, hz, r1, fun ov => ?_⟩
    obtain ⟨a0, v0, rfl, ha0, d, nv, r2, g2⟩ := g ov
    refine ⟨a0, v0, rfl, ha0, d, nv, r2, fun wi Ga s1 => ?_⟩
    obtain ⟨vts, ⟨a, ea, ha, vk⟩, nd, rfl, hT, q⟩ := g2 wi
    cases ea
    have l5 := vk.len
    refine ⟨_, rfl, a0, _, rfl, .inr (SqT.of (s1 _ _ ha)), _, rfl, by rw [List.length_map]; omega, by rw [List.length_map]; omega, hT.ext s1, fun p L Gb eN tN hL eL => ?_⟩
    rw [List.length_map] at eL
    have e1 := (LamX.ExtN.of s1).trans eN
    have lL : L.length ≤ 32 := by
      have e := congrArg List.length eL
      rw [List.length_map, (parts_perm _).length_eq, subs_len, rgZ_len] at e
      rw [e]
      exact pow5 (by omega)
    have fL : ∀ q ∈ L, Lot vts.length q.2 := fun q hq => (rgZ_lot _).sub (mem_parts.mp (eL ▸ List.mem_map.mpr ⟨q, hq, rfl⟩))
    refine ⟨p, rfl, ⟨_, SqL.of hL.1⟩, fun D hD => ?_⟩
    refine walk_core (walk_list (K := K) (a := p) (xs := refs L)) (fun i G => LamX.ExtN Gb G ∧ LamX.Tabs Tb G ∧ G D = some (.lst (refs ((L.take i).filter fun q => writeP vts nd q.2)))) ⟨LamX.ExtN.of (same_up hD), tN.ext (same_up hD), upd_same⟩ (fun _ _ _ g => SqL.of (ext_at g.1 hL.1)) ?_ ?_
    · rintro i y G G' hi ⟨e2, t2, hD2⟩ ⟨rfl, hy⟩
      obtain ⟨r, hr', rfl⟩ := refs_get hy
      have rL := List.mem_of_getElem? hr'
      have r5 := ((fL r rL).mono (m := 5) (by omega)).len
      refine ⟨rfl, _, rfl, _, rfl, a0, r.1, vts, r.2, rfl, ext_tp (e1.trans e2) ha, .inr (ext_tp e2 (hL.2 r rL)), (fL r rL).2, by omega, fun G2 s3 => ?_⟩
      have e3 := LamX.ExtN.of s3
      refine ⟨_, rfl, rI0_to (v := V.bl (writeP vts nd r.2)) rfl ⟨_, rfl, ?_⟩⟩
      refine ite2 (fun e => ?_) fun e => ?_
      · exact ⟨_, rfl, pick_yes (p := fun q => writeP vts nd q.2) (R := fun G => LamX.ExtN Gb G ∧ LamX.Tabs Tb G ∧ G D = some (.lst (refs ((L.take (i + 1)).filter fun q => writeP vts nd q.2)))) hD (e2.trans e3) (ext_at e3 hD2) (by omega) hr' e fun e4 => ⟨e4, tabs_upd (t2.ext s3) (ext_at e3 hD2), upd_same⟩⟩
      · have fs := filt_snoc hr' (fun q : AT => writeP vts nd q.2)
        rw [if_neg e, List.append_nil] at fs
        exact ⟨e2.trans e3, t2.ext s3, by rw [fs]; exact ext_at e3 hD2⟩
    · rintro G ⟨e2, t2, hD2⟩
      rw [refs_len, List.take_length] at hD2
      refine q D _ G (e1.trans e2) t2 ⟨hD2, fun r hr => ext_tp e2 (hL.2 r (List.mem_filter.mp hr).1)⟩ ?_
      rw [← eL, List.filter_map]
      rfl
end
end Pl

namespace Pl
open L2 PySem PySem.Spec PyProof.Rows RZ
/-- the source of draws stands at z -/
def Src (z : Addr) (H : Hp) : Prop := ∃ x y : Int, H z = some (.lst [.int x, .int y]) ∧ 0 ≤ x ∧ 0 ≤ y ∧ y < 2147483647
theorem Src.some {z : Addr} {H : Hp} (h : Src z H) : ∃ o, H z = some o := let ⟨x, y, e, _⟩ := h; ⟨_, e⟩
def spPool (K : PySem.W.Frag) : Sp := fun vs H Q _ => ∃ (a : Addr) (ns : List Int) (k : Int), vs = [.ref a, .int k] ∧ SqL K H a (ns.map V.int) ∧ 0 ≤ k ∧ k ≤ 10 ∧ ∀ p H', H p = none → Same H H' → Src p H' → Q (.ref p) H'
def spTake : Sp := fun vs H Q _ => ∃ (z : Addr) (t : Int), vs = [.ref z, .int t] ∧ Src z H ∧ 0 < t ∧ t ≤ 1000 ∧ ∀ (r : Int) (H' : Hp), 0 ≤ r → r < t → But z H H' → Src z H' → Q (.int r) H'
section
variable {P : Program} {K : PySem.W.Frag} {w : World} {base : Heap} {mg : Str → Option Value}
theorem scPool : FnScope ["_law_script", "_law_k", "_law_cell", "_law_big", "_law_mixed"] ["_law_script", "_law_k"] (defScope sPool) := ⟨rfl, rfl, rfl, by decide +kernel, rfl, by decide +kernel, by decide +kernel⟩
theorem ok_pool {f : Addr} {fd : FuncData} (F : Fun K "_law_pool" "_law_pool" sPool f fd) (T : Cst mg) : FnOk P w K mg base CX0 1 f fd ["_law_script", "_law_k"] (spPool K) := by
  refine F.ok scPool (fun vs H Q E h => ?_) (fun cdv A outer s H vs Q E hr h => ?_)
  · obtain ⟨a, ns, k, rfl, _⟩ := h; skip
    rfl
  · obtain ⟨a, ns, k, rfl, hS, k0, k1, q⟩ := h
    refine ⟨_, pss_cons (ps_set (i := 2) scPool.nd rfl (Or.inl rfl) pe_int)
      (pss_cons (ps_if (pt_cmpR op_lt (pv 1) (pe_callB call_len_seq (by rfl) T.len PySem.boot_len (pa_cons (pv 0) pa_nil)) (nomark _))
        (pss_one (ps_set (i := 2) scPool.nd rfl (Or.inl rfl) (pe_ix ix_list (pv 0) (pv 1) (fun _ _ => rfl)))) pss_nil)
      (pss_cons (ps_set (i := 3) scPool.nd rfl (Or.inl rfl) (pe_callB (call_max2 rfl) (by rfl) T.max_ (by decide +kernel) (pa_cons (pe_callTy call_int1 (by rfl) T.tint (by decide +kernel) (pa_cons (pv 2) pa_nil))
        (pa_cons (pe_callTy call_int1 (by rfl) T.tint (by decide +kernel) (pa_cons (pe_op op_sub (pe_un un_neg pe_int) (pv 2)) pa_nil)) pa_nil))))
      (pss_cons (ps_set (i := 4) scPool.nd rfl (Or.inl rfl) (pe_op op_mod (pe_callTy call_int1 (by rfl) T.tint (by decide +kernel) (pa_cons
          (pe_op op_mul (pe_op op_add (pe_op op_add (pe_op op_add (pe_op op_mod (pe_callTy call_int1 (by rfl) T.tint (by decide +kernel) (pa_cons (pv 3) pa_nil)) pe_int) (pe_op op_mul (pe_op op_mul pe_int (pv 1)) (pv 1))) (pe_op op_mul pe_int (pv 1))) pe_int) pe_int) pa_nil)) pe_int))
      (pss_one (ps_ret (pe_lst (pa_cons (pe_op op_mul (pv 3) (pe_callTy call_int1 (by rfl) T.tint (by decide +kernel) (pa_cons (pe_cmpR op_ge (pv 3) (pe_op op_pow pe_int pe_int) (nomark _)) pa_nil))) (pa_cons (pv 4) pa_nil)))))))), ?_⟩
    have hbig : ∀ c : Int, 0 ≤ (if (-1 - c) > c then (-1 - c) else c) := fun c => by
      split <;> omega
    have fin : ∀ (b : Int) (p : Addr) (G : Hp), 0 ≤ b → H p = none → Same H G → G p = some (.lst [.int (b * (if decide (b ≥ 10 ^ 18) = true then 1 else 0)), .int (((b % 2147483629 + 7919 * k * k + 31 * k + 17) * 48271) % 2147483647)]) → Q (.ref p) G := fun b p G hb hp sG hG => by
      refine q p G hp sG ⟨_, _, hG, ?_, Int.emod_nonneg _ (by decide), Int.emod_lt_of_pos _ (by decide)⟩
      refine Int.mul_nonneg hb ?_
      split <;> decide
    have bnd : ∀ b : Int, 0 ≤ b % 2147483629 ∧ b % 2147483629 < 2147483629 := fun b => ⟨Int.emod_nonneg _ (by decide), Int.emod_lt_of_pos _ (by decide)⟩
    have kk : 0 ≤ 7919 * k ∧ 7919 * k ≤ 79190 := ⟨by omega, by omega⟩
    have kk2 : 0 ≤ 7919 * k * k ∧ 7919 * k * k ≤ 791900 := ⟨Int.mul_nonneg kk.1 k0, by
      have := Int.mul_le_mul kk.2 k1 k0 (by omega)
      omega⟩
    refine ⟨_, rfl, _, rfl, a, _, rfl, .inl hS, _, _, rfl, rfl, _, rfl, ?_⟩; skip
    refine ite2 (fun e => ?_) fun e => ?_
    · obtain ⟨j, rfl⟩ : ∃ j : Nat, k = j := ⟨k.toNat, by omega⟩
      have hj : j < ns.length := by
        have := of_decide_eq_true e
        rw [List.length_map] at this
        omega
      refine ⟨_, rfl, _, rfl, a, _, _, .int ns[j], rfl, rfl, hS, atI_nat (by rw [List.getElem?_map, List.getElem?_eq_getElem hj]; rfl), ?_⟩
      refine ⟨_, rfl, .inl ⟨_, rfl, ?_⟩⟩
      refine ⟨_, rfl, _, rfl, _, _, rfl, rfl, .inl ⟨_, rfl, ?_⟩⟩
      refine ⟨_, _, rfl, ?_⟩
      have hb := hbig (ns[j])
      revert hb
      generalize (if (-1 - ns[j]) > ns[j] then (-1 - ns[j]) else ns[j]) = b
      intro hb
      have h1 := bnd b
      refine ⟨_, rfl, .inl ⟨_, rfl, _, _, rfl, rfl, (by show (0 : Int) < 2147483629; decide), ?_⟩⟩
      refine ⟨_, rfl, _, _, rfl, rfl, .inl ⟨by decide, by decide⟩, _, rfl, _, _, rfl, rfl, .inl ⟨by omega, by omega⟩, ?_⟩
      refine ⟨_, _, rfl, rfl, _, rfl, _, _, rfl, rfl, .inl ⟨by decide, by decide⟩, _, _, rfl, rfl, _, _, rfl, rfl, ?_⟩
      refine ⟨_, _, rfl, rfl, .inl ⟨by omega, by omega⟩, .inl ⟨_, rfl, _, _, rfl, rfl, (by show (0 : Int) < 2147483647; decide), ?_⟩⟩
      refine ⟨_, rfl, _, rfl, _, _, rfl, rfl, ⟨by decide, by decide, by decide⟩, _, _, rfl, rfl, .inr ⟨_, rfl, _, _, rfl, rfl, .inr ⟨?_, ?_⟩, _, rfl, (by show 2 ≤ sizeLine; decide), fun p hp => fin b p _ hb hp (same_new hp) upd_same⟩⟩
      · split <;> decide
      · split <;> decide
    · refine ⟨_, rfl, .inl ⟨_, rfl, ?_⟩⟩
      refine ⟨_, rfl, _, rfl, _, _, rfl, rfl, .inl ⟨_, rfl, ?_⟩⟩
      refine ⟨_, _, rfl, ?_⟩
      have hb := hbig (0)
      revert hb
      generalize (if (-1 - 0) > 0 then (-1 - 0) else 0) = b
      intro hb
      have h1 := bnd b
      refine ⟨_, rfl, .inl ⟨_, rfl, _, _, rfl, rfl, (by show (0 : Int) < 2147483629; decide), ?_⟩⟩
      refine ⟨_, rfl, _, _, rfl, rfl, .inl ⟨by decide, by decide⟩, _, rfl, _, _, rfl, rfl, .inl ⟨by omega, by omega⟩, ?_⟩
      refine ⟨_, _, rfl, rfl, _, rfl, _, _, rfl, rfl, .inl ⟨by decide, by decide⟩, _, _, rfl, rfl, _, _, rfl, rfl, ?_⟩
      refine ⟨_, _, rfl, rfl, .inl ⟨by omega, by omega⟩, .inl ⟨_, rfl, _, _, rfl, rfl, (by show (0 : Int) < 2147483647; decide), ?_⟩⟩
      refine ⟨_, rfl, _, rfl, _, _, rfl, rfl, ⟨by decide, by decide, by decide⟩, _, _, rfl, rfl, .inr ⟨_, rfl, _, _, rfl, rfl, .inr ⟨?_, ?_⟩, _, rfl, (by show 2 ≤ sizeLine; decide), fun p hp => fin b p _ hb hp (same_new hp) upd_same⟩⟩
      · split <;> decide
      · split <;> decide
theorem scTake : FnScope ["_law_source", "_law_top", "_law_told"] ["_law_source", "_law_top"] (defScope sTake) := ⟨rfl, rfl, rfl, by decide +kernel, rfl, by decide +kernel, by decide +kernel⟩
theorem ok_take {f : Addr} {fd : FuncData} (F : Fun K "_law_take" "_law_take" sTake f fd) (T : Cst mg) : FnOk P w K mg base CX0 1 f fd ["_law_source", "_law_top"] spTake := by
  refine F.ok scTake (fun vs H Q E h => ?_) (fun cdv A outer s H vs Q E hr h => ?_)
  · obtain ⟨z, t, rfl, _⟩ := h
    rfl
  · obtain ⟨z, t, rfl, ⟨x, y, hz, x0, y0, y1⟩, t0, t1, q⟩ := h
    refine ⟨_, pss_cons (ps_if (pt_cmpR op_gt (pe_ix ix_list (pv 0) pe_int (fun _ _ => rfl)) pe_int (nomark _))
        (pss_cons (ps_set (i := 2) scTake.nd rfl (Or.inl rfl) (pe_op op_mod (pe_callTy call_int1 (by rfl) T.tint (by decide +kernel) (pa_cons (pe_ix ix_list (pv 0) pe_int (fun _ _ => rfl)) pa_nil)) (pv 1)))
        (pss_cons (ps_asg (pe_op op_fdiv (pe_ix ix_list (pv 0) pe_int (fun _ _ => rfl)) (pv 1)) (pg_sub (pv 0) pe_int L2.set_list))
        (pss_one (ps_ret (pv 2))))) pss_nil)
      (pss_cons (ps_asg (pe_op op_mod (pe_callTy call_int1 (by rfl) T.tint (by decide +kernel) (pa_cons (pe_op op_add (pe_op op_mul (pe_ix ix_list (pv 0) pe_int (fun _ _ => rfl)) pe_int) pe_int) pa_nil)) pe_int) (pg_sub (pv 0) pe_int L2.set_list))
      (pss_one (ps_ret (pe_op op_mod (pe_callTy call_int1 (by rfl) T.tint (by decide +kernel) (pa_cons (pe_op op_fdiv (pe_op op_mod (pe_callTy call_int1 (by rfl) T.tint (by decide +kernel) (pa_cons (pe_op op_mul (pe_ix ix_list (pv 0) pe_int (fun _ _ => rfl)) (pe_ix ix_list (pv 0) pe_int (fun _ _ => rfl))) pa_nil)) pe_int) pe_int) pa_nil)) (pv 1))))), ?_⟩
    refine ⟨_, rfl, z, _, _, .int x, rfl, rfl, SqL.of hz, atI_nat (j := 0) rfl, _, _, rfl, rfl, _, rfl, ?_⟩
    refine ite2 (fun e => ?_) fun e => ?_
    · refine ⟨_, rfl, z, _, _, .int x, rfl, rfl, SqL.of hz, atI_nat (j := 0) rfl, .inl ⟨_, rfl, _, rfl, _, _, rfl, rfl, t0, ?_⟩⟩
      refine ⟨_, rfl, z, _, _, .int x, rfl, rfl, SqL.of hz, atI_nat (j := 0) rfl, _, rfl, _, _, rfl, rfl, ⟨t0, by omega⟩, ?_⟩
      refine ⟨_, rfl, z, _, _, 0, rfl, rfl, hz, rfl, _, rfl, ?_⟩
      exact q _ _ (Int.emod_nonneg _ (by omega)) (Int.emod_lt_of_pos _ t0) But.upd ⟨_, _, upd_same, Int.ediv_nonneg x0 (by omega), y0, y1⟩
    · refine ⟨_, rfl, z, _, _, .int y, rfl, rfl, SqL.of hz, atI_nat (j := 1) rfl, _, _, rfl, rfl, .inl ⟨by omega, by omega⟩, _, _, rfl, rfl, .inl ⟨_, rfl, _, _, rfl, rfl, (by show (0 : Int) < 2147483647; decide), ?_⟩⟩
      have h2 : 0 ≤ (y * 39373 + 7) % 2147483647 ∧ (y * 39373 + 7) % 2147483647 < 2147483647 := ⟨Int.emod_nonneg _ (by decide), Int.emod_lt_of_pos _ (by decide)⟩
      refine ⟨_, rfl, z, _, _, 1, rfl, rfl, hz, rfl, ?_⟩
      have hz2 : upd H z (.lst ([V.int x, V.int y].set 1 (V.int ((y * 39373 + 7) % 2147483647)))) z = some (.lst [.int x, .int ((y * 39373 + 7) % 2147483647)]) := upd_same
      refine ⟨_, rfl, z, _, _, .int ((y * 39373 + 7) % 2147483647), rfl, rfl, SqL.of hz2, atI_nat (j := 1) rfl, _, rfl, z, _, _, .int ((y * 39373 + 7) % 2147483647), rfl, rfl, SqL.of hz2, atI_nat (j := 1) rfl, _, _, rfl, rfl, .inl ⟨by omega, by omega⟩, .inl ⟨_, rfl, _, _, rfl, rfl, (by show (0 : Int) < 2147483629; decide), ?_⟩⟩
      refine ⟨_, _, rfl, rfl, ⟨by decide, by decide⟩, .inl ⟨_, rfl, _, rfl, _, _, rfl, rfl, t0, ?_⟩⟩
      exact q _ _ (Int.emod_nonneg _ (by omega)) (Int.emod_lt_of_pos _ t0) But.upd ⟨_, _, hz2, x0, h2.1, h2.2⟩
end
theorem Src.ext {z : Addr} {H G : Hp} (h : Src z H) (e : LamX.ExtN H G) : Src z G := by
  obtain ⟨x, y, hz, r⟩ := h
  exact ⟨x, y, e _ _ hz (fun _ q => by cases q), r⟩
theorem Src.same {z : Addr} {H G : Hp} (h : Src z H) (e : Same H G) : Src z G := h.ext (LamX.ExtN.of e)
theorem Src.upd {z D : Addr} {H : Hp} {o : HO} (h : Src z H) (n : D ≠ z) : Src z (L2.upd H D o) := by
  obtain ⟨x, y, hz, r⟩ := h
  exact ⟨x, y, (upd_ne (Ne.symm n)).trans hz, r⟩
theorem But.sup {z : Addr} {H G : Hp} {D : Addr} {o : HO} (hD : H D = none) (s : But z H G) : But z H (L2.upd G D o) := fun b u n t hb => by
  rw [upd_ne (ne_of_none hb hD)]
  exact s b u n t hb
theorem tabs_but {z : Addr} {Tb : TbL} {H G : Hp} (b : But z H G) (s : Src z H) (t : LamX.Tabs Tb H) : LamX.Tabs Tb G := by
  obtain ⟨x, y, hz, _⟩ := s
  intro p hp
  obtain ⟨ps, h1, h2, h3⟩ := t p hp
  have n1 : p.1 ≠ z := fun e => by
    rw [e, hz] at h1
    cases h1
  refine ⟨ps, b _ _ n1 trivial h1, h2, fun pos cv hc => ?_⟩
  obtain ⟨c, e1, e2⟩ := h3 pos cv hc; skip
  have n2 : c ≠ z := fun e => by
    rw [e, hz] at e2
    cases e2
  exact ⟨c, e1, b _ _ n2 trivial e2⟩
theorem ext_but {z : Addr} {H G F : Hp} (e : LamX.ExtN H G) (hz : ∀ b o, H b = some o → (∀ ps, o ≠ .tbl ps) → b ≠ z) (b : But z G F) : LamX.ExtN H F := fun c o h n => b c o (hz c o h n) trivial (e c o h n)
theorem sql_ext {K : PySem.W.Frag} {H G : Hp} {a : Addr} {xs : List V} (e : LamX.ExtN H G) (h : SqL K H a xs) : SqL K G a xs := by
  rcases h with (h | ⟨o, h⟩) | h; skip
  · exact .inl (.inl (e _ _ h fun _ q => by cases q))
  · exact .inl (.inr ⟨o, e _ _ h fun _ q => by cases q⟩)
  · exact .inr h
theorem lots_z {z p : Addr} {H G : Hp} {L : List AT} (h : Lots H p L) (s : Src z H) (b : But z H G) : Lots G p L := by
  obtain ⟨x, y, hz, _⟩ := s
  by_cases e : p = z
  · subst e
    have h1 := h.1
    rw [hz] at h1
    have h2 := HO.lst.inj (Option.some.inj h1)
    exfalso
    cases L with
    | nil => cases h2
    | cons q L => cases h2
  · refine ⟨b _ _ e trivial h.1, fun q hq => b _ _ (fun e => ?_) trivial (h.2 q hq)⟩
    have h1 := h.2 q hq
    rw [e, hz] at h1
    cases h1
theorem tup_z {z p : Addr} {H G : Hp} {xs : List V} (h : H p = some (.tup xs)) (s : Src z H) (b : But z H G) : G p = some (.tup xs) := by
  obtain ⟨x, y, hz, _⟩ := s
  refine b _ _ (fun e => ?_) trivial h
  rw [e, hz] at h
  cases h
def spOne : Sp := fun vs H Q _ => ∃ (z t : Addr) (xs : List V), vs = [.ref z, .ref t] ∧ Src z H ∧ H t = some (.lst xs) ∧ t ≠ z ∧ 0 < xs.length ∧ xs.length ≤ 100 ∧ ∀ (i : Nat) x (H' : Hp), xs[i]? = some x → But z H H' → Src z H' → Q x H'
def spRounds (K : PySem.W.Frag) : Sp := fun vs H Q _ => ∃ (a : Addr) (ns : List Int), vs = [.ref a] ∧ SqL K H a (ns.map V.int) ∧ ∀ (N : Nat) p G, N ≤ 10 → Same H G → G p = some (.lst ((rgZ N).map V.int)) → Q (.ref p) G
def spLAll : Sp := fun vs H Q _ => ∃ (n : Int), vs = [.int n] ∧ 0 ≤ n ∧ n ≤ 5 ∧ ∀ p L G, Same H G → Lots G p L → L.map (·.2) = subs (rgZ n) → Q (.ref p) G
def spInS : Sp := fun vs H Q _ => ∃ (a : Addr) (L : List AT), vs = [.ref a] ∧ Lots H a L ∧ L.length ≤ 32 ∧ (∀ q ∈ L, q.2.length ≤ 5) ∧ ∀ p M G, Same H G → Lots G p M → M.map (·.2) = inSize (L.map (·.2)) → Q (.ref p) G
def spLSum : Sp := fun vs H Q _ => ∃ (a b : Addr) (v l : Z), vs = [.ref a, .ref b] ∧ H a = some (.tup (v.map V.int)) ∧ H b = some (.tup (l.map V.int)) ∧ (∀ x ∈ l, 0 ≤ x ∧ x < v.length) ∧ l.length ≤ 100 ∧ ∀ G, Same H G → Q (.int (vsum v l)) G
def spLSure : Sp := fun vs H Q _ => ∃ (a b : Addr) (v l : Z) (u : Int), vs = [.ref a, .ref b, .int u] ∧ H a = some (.tup (v.map V.int)) ∧ H b = some (.tup (l.map V.int)) ∧ Vl v u l ∧ ∀ G, Same H G → Q (.int (sureP v u.toNat l)) G
def spLEn : Sp := fun vs H Q _ => ∃ (a b : Addr) (v l : Z) (n u : Int), vs = [.ref a, .int n, .int u, .ref b] ∧ H a = some (.tup (v.map V.int)) ∧ H b = some (.tup (l.map V.int)) ∧ Vl v u l ∧ ∀ G, Same H G → Q (.bl (enoughP v n u.toNat l)) G
def spMeets : Sp := fun vs H Q _ => ∃ (a b : Addr) (l m : Z) (u : Int), vs = [.ref a, .ref b, .int u] ∧ H a = some (.tup (l.map V.int)) ∧ H b = some (.tup (m.map V.int)) ∧ l.length ≤ 100 ∧ ∀ G, Same H G → Q (.bl (decide (u < ((cap l m).length : Nat)))) G
theorem first_at {m : Int} : ∀ {ms : Z}, m ∈ ms → ∃ j : Nat, ms[j]? = some m ∧ ∀ k x, k < j → ms[k]? = some x → x ≠ m
  | x :: ms, h => by
    by_cases e : x = m
    · exact ⟨0, by rw [e]; rfl, fun k y hk => absurd hk (Nat.not_lt_zero _)⟩
    · rcases List.mem_cons.mp h with h | h
      · exact absurd h.symm e
      · obtain ⟨j, h1, h2⟩ := first_at h
        refine ⟨j + 1, by simpa using h1, fun k y hk hy => ?_⟩
        cases k with
        | zero =>
          simp at hy
          rw [← hy]
          exact e
        | succ k => exact h2 k y (by omega) (by simpa using hy)
theorem erase_perm {m : Int} : ∀ {ms : Z} {j : Nat}, ms[j]? = some m → ms.Perm (m :: ms.eraseIdx j)
  | x :: ms, 0, h => by
    simp at h
    subst h
    exact .refl _
  | x :: ms, j + 1, h => by
    have h' : ms[j]? = some m := by simpa using h
    exact ((erase_perm h').cons x).trans (.swap m x _)
theorem map_eraseIdx : ∀ (ms : Z) (j : Nat), (ms.map V.int).eraseIdx j = (ms.eraseIdx j).map V.int
  | [], _ => rfl
  | _ :: _, 0 => rfl
  | x :: ms, j + 1 => congrArg (V.int x :: ·) (map_eraseIdx ms j)
abbrev nLA : List Str := ["_law_many", "_law_found", "_law_copy", "_law_lot"]
abbrev nIS : List Str := ["_law_lots", "_law_found", "_law_size", "_law_lot"]
abbrev nLM : List Str := ["_law_votes_here", "_law_lot", "_law_copy"]
abbrev nLU : List Str := ["_law_votes_here", "_law_lot", "_law_unruly_here", "_law_left", "_law_turn", "_law_copy", "_law_one_here"]
abbrev nME : List Str := ["_law_lot", "_law_other", "_law_unruly_here", "_law_copy"]
section
variable {P : Program} {K : PySem.W.Frag} {w : World} {base : Heap} {mg : Str → Option Value}
theorem scOne : FnScope ["_law_source", "_law_things"] ["_law_source", "_law_things"] (defScope sOne) := ⟨rfl, rfl, rfl, by decide +kernel, rfl, by decide +kernel, by decide +kernel⟩
theorem ok_one {f : Addr} {fd : FuncData} (F : Fun K "_law_one" "_law_one" sOne f fd) (T : Cst mg) (DT : Df P w K mg base 1 "_law_take" ["_law_source", "_law_top"] spTake) : FnOk P w K mg base CX0 2 f fd ["_law_source", "_law_things"] spOne := by
  obtain ⟨gT, fdT, GT, mT, kT, bT⟩ := DT.ex
  refine F.ok scOne (fun vs H Q E h => ?_) (fun cdv A outer s0 H vs Q E hr h => ?_)
  · obtain ⟨z, t, xs, rfl, _⟩ := h
    rfl
  · obtain ⟨z, t, xs, rfl, hz, ht, tz, l0, l1, q⟩ := h
    refine ⟨_, pss_one (ps_ret (pe_ix (show IxR _ (rIxL K) from ix_list) (pv 1) (pe_call GT hr (by rfl) mT kT bT .nil pass0 (pa_cons (pv 0) (pa_cons (pe_callB call_len_seq (by rfl) T.len PySem.boot_len (pa_cons (pv 1) pa_nil)) pa_nil))) (fun _ _ => rfl))), ?_⟩
    refine ⟨_, rfl, _, rfl, _, rfl, t, _, rfl, .inl (SqL.of ht), z, _, rfl, hz, by omega, by omega, fun r G r0 r1 b1 z1 => ?_⟩
    obtain ⟨j, rfl⟩ : ∃ j : Nat, r = j := ⟨r.toNat, by omega⟩
    obtain ⟨x, ex⟩ : ∃ x, xs[j]? = some x := ⟨_, List.getElem?_eq_getElem (by omega)⟩
    exact ⟨t, _, _, x, rfl, rfl, SqL.of (b1 _ _ tz trivial ht), atI_nat ex, q j x G ex b1 z1⟩
theorem scRounds : FnScope ["_law_script"] ["_law_script"] (defScope sRounds) := ⟨rfl, rfl, rfl, by decide +kernel, rfl, by decide +kernel, by decide +kernel⟩
theorem ok_rounds {f : Addr} {fd : FuncData} (F : Fun K "_law_rounds" "_law_rounds" sRounds f fd) (T : Cst mg) : FnOk P w K mg base CX0 1 f fd ["_law_script"] (spRounds K) := by
  refine F.ok scRounds (fun vs H Q E h => ?_) (fun cdv A outer s0 H vs Q E hr h => ?_)
  · obtain ⟨a, ns, rfl, _⟩ := h
    rfl
  · obtain ⟨a, ns, rfl, hS, q⟩ := h
    refine ⟨_, pss_one (ps_ret (pe_listRg rfl (by rfl) T.tlst (prg_1 (by rfl) T.rng (pe_callB (call_max2 rfl) (by rfl) T.max_ (by decide +kernel) (pa_cons pe_int (pa_cons (pe_callB (call_min2 rfl) (by rfl) T.min_ (by decide +kernel) (pa_cons (pe_callB call_len_seq (by rfl) T.len PySem.boot_len (pa_cons (pv 0) pa_nil)) (pa_cons pe_int pa_nil))) pa_nil)))))), ?_⟩
    have hN6 : ∀ L : Int, ∃ N : Nat, N ≤ 10 ∧ (if (if (10 : Int) < L then 10 else L) > 1 then (if (10 : Int) < L then 10 else L) else 1) = (N : Int) := fun L => by
      refine ⟨(if (if (10 : Int) < L then 10 else L) > 1 then (if (10 : Int) < L then 10 else L) else 1).toNat, ?_, ?_⟩ <;> (split <;> split <;> omega)
    obtain ⟨N, hN, eN⟩ := hN6 ((ns.map V.int).length : Nat)
    refine ⟨_, rfl, a, _, rfl, .inl hS, _, _, rfl, _, _, rfl, ?_⟩
    rw [eN]
    refine ⟨_, rfl, .of_le (by omega) (by omega) (by omega) (by omega), fun l hl => ?_⟩
    rw [rgV_rgZ]
    exact q N l _ hN (same_up hl) upd_same
theorem scLSum : FnScope nLM ["_law_votes_here", "_law_lot"] (defScope sLSum) := ⟨rfl, rfl, rfl, by decide +kernel, rfl, by decide +kernel, by decide +kernel⟩
theorem ok_lsum {f : Addr} {fd : FuncData} (F : Fun K "_law_sum" "_law_sum" sLSum f fd) (T : Cst mg) : FnOk P w K mg base CX0 1 f fd ["_law_votes_here", "_law_lot"] spLSum := by
  refine F.ok scLSum (fun vs H Q E h => ?_) (fun cdv A outer s0 H vs Q E hr h => ?_)
  · obtain ⟨a, b, v, l, rfl, _⟩ := h
    rfl
  · obtain ⟨a, b, v, l, rfl, ha, hb, rn, ll, q⟩ := h
    refine ⟨_, pss_one (ps_ret (pe_callB (cr_sum rfl) (by rfl) T.sum_ (by decide +kernel) (pa_cons (pe_lc (own := [("_law_copy", 2)]) (g := gName 2) (tt := tYes) rfl scLSum.nd (pi_tup (pv 1)) (blkOk_by (own := [("_law_copy", 2)]) (N := nLM) (sc := defScope sLSum) (by decide +kernel))
          (fun _ _ _ _ _ => pg_name (i := 2) scLSum.nd rfl (Or.inl rfl)) (fun _ _ _ _ _ => pts_nil) (fun _ _ _ _ _ => pe_ix (show IxR _ (rIxT K) from ix_tup) (pv 0) (pv 2) (fun _ _ => rfl))) pa_nil))), ?_⟩
    refine ⟨_, rfl, b, rfl, ⟨_, SqT.of hb⟩, fun D hD => ?_⟩
    refine walk_core (walk_tup (K := K) (a := b) (xs := l.map V.int)) (fun i G => Same H G ∧ G D = some (.lst (((l.take i).map (vt v)).map V.int))) ⟨same_up hD, upd_same⟩ (fun _ _ _ g => SqT.of (g.1 _ _ hb)) ?_ ?_
    · rintro i y G G' hi ⟨s1, hD1⟩ ⟨rfl, hy⟩
      obtain ⟨x, hx, rfl⟩ := zV_get hy
      have hr := rn x (List.mem_of_getElem? hx)
      obtain ⟨z, ez⟩ : ∃ z, v[x.toNat]? = some z := ⟨_, List.getElem?_eq_getElem (by omega)⟩
      have ev : vt v x = z := by
        unfold vt
        rw [List.getD_eq_getElem?_getD, ez]
        rfl
      refine ⟨rfl, _, rfl, _, rfl, a, _, x, .int z, rfl, rfl, SqT.of (s1 _ _ ha), ?_, ?_⟩
      · obtain ⟨j, rfl⟩ : ∃ j : Nat, x = j := ⟨x.toNat, by omega⟩
        exact atI_nat (by rw [List.getElem?_map, show v[j]? = some z from ez]; rfl)
      · refine ⟨_, hD1, small1000 (by rw [List.length_map, List.length_map, List.length_take]; omega), sup hD s1, ?_⟩
        rw [upd_same, take_next1 hx, List.map_append, List.map_append, List.map_singleton, List.map_singleton, ev]
    rintro G ⟨s1, hD1⟩
    rw [List.length_map, List.take_length] at hD1
    exact ⟨D, _, rfl, SqL.of hD1, q G s1⟩
theorem scLSure : FnScope nLU ["_law_votes_here", "_law_lot", "_law_unruly_here"] (defScope sLSure) := ⟨rfl, rfl, rfl, by decide +kernel, rfl, by decide +kernel, by decide +kernel⟩
theorem ok_lsure {f : Addr} {fd : FuncData} (F : Fun K "_law_sure" "_law_sure" sLSure f fd) (T : Cst mg) : FnOk P w K mg base CX0 1 f fd ["_law_votes_here", "_law_lot", "_law_unruly_here"] spLSure := by
  refine F.ok scLSure (fun vs H Q E h => ?_) (fun cdv A outer s0 H vs Q E hr h => ?_)
  · obtain ⟨a, b, v, l, u, rfl, _⟩ := h
    rfl
  · obtain ⟨a, b, v, l, u, rfl, ha, hb, vl, q⟩ := h
    have rn := vl.ix
    have ll := vl.len
    refine ⟨_, pss_cons (ps_setLc (i := 3) (own := [("_law_copy", 5)]) (g := gName 5) (tt := tYes) rfl scLSure.nd rfl rfl (sw_true rfl rfl rfl (by decide +kernel)) (pi_tup (pv 1)) (blkOk_by (own := [("_law_copy", 5)]) (N := nLU) (sc := defScope sLSure) (by decide +kernel))
          (fun _ _ _ _ _ => pg_name (i := 5) scLSure.nd rfl (Or.inl rfl)) (fun _ _ _ _ _ => pts_nil) (fun _ _ _ _ _ => pe_ix (show IxR _ (rIxT K) from ix_tup) (pv 0) (pv 5) (fun _ _ => rfl)))
      (pss_cons (ps_for PassesOwn.never rfl (pi_range1 rfl T.rng (pa_cons (pe_callB (call_min2 rfl) (by rfl) T.min_ (by decide +kernel) (pa_cons (pv 2) (pa_cons (pe_callB call_len_seq (by rfl) T.len PySem.boot_len (pa_cons (pv 3) pa_nil)) pa_nil))) pa_nil)) (pg_name (i := 4) scLSure.nd rfl (Or.inl rfl))
        (pss_one (ps_expr (pe_bm PySem.F.plainAttrs_list PySem.F.slot_list_pop PySem.F.type_list_pop mt_popAt (pv 3) (pa_cons (pe_bm PySem.F.plainAttrs_list PySem.F.slot_list_index PySem.F.type_list_index mt_index (pv 3) (pa_cons
          (pe_callB (cr_max rfl) (by rfl) T.max_ (by decide +kernel) (pa_cons (pe_lc (own := [("_law_one_here", 6)]) (g := gName 6) (tt := tYes) rfl scLSure.nd (pi_list (pv 3)) (blkOk_by (own := [("_law_one_here", 6)]) (N := nLU) (sc := defScope sLSure) (by decide +kernel))
            (fun _ _ _ _ _ => pg_name (i := 6) scLSure.nd rfl (Or.inl rfl)) (fun _ _ _ _ _ => pts_nil) (fun _ _ _ _ _ => pe_callTy call_int1 (by rfl) T.tint (by decide +kernel) (pa_cons (pv 6) pa_nil))) pa_nil)) pa_nil)) pa_nil)))))
      (pss_one (ps_ret (pe_callB (cr_sum rfl) (by rfl) T.sum_ (by decide +kernel) (pa_cons (pv 3) pa_nil))))), ?_⟩
    refine ⟨_, rfl, b, rfl, ⟨_, SqT.of hb⟩, fun D hD => ?_⟩
    refine walk_core (walk_tup (K := K) (a := b) (xs := l.map V.int)) (fun i G => Same H G ∧ G D = some (.lst (((l.take i).map (vt v)).map V.int))) ⟨same_up hD, upd_same⟩ (fun _ _ _ g => SqT.of (g.1 _ _ hb)) ?_ ?_
    · rintro i y G G' hi ⟨s1, hD1⟩ ⟨rfl, hy⟩
      obtain ⟨x, hx, rfl⟩ := zV_get hy
      have hr := rn x (List.mem_of_getElem? hx)
      obtain ⟨z, ez⟩ : ∃ z, v[x.toNat]? = some z := ⟨_, List.getElem?_eq_getElem (by omega)⟩
      have ev : vt v x = z := by
        unfold vt
        rw [List.getD_eq_getElem?_getD, ez]
        rfl
      refine ⟨rfl, _, rfl, _, rfl, a, _, x, .int z, rfl, rfl, SqT.of (s1 _ _ ha), ?_, ?_⟩
      · obtain ⟨j, rfl⟩ : ∃ j : Nat, x = j := ⟨x.toNat, by omega⟩
        exact atI_nat (by rw [List.getElem?_map, show v[j]? = some z from ez]; rfl)
      · refine ⟨_, hD1, small1000 (by rw [List.length_map, List.length_map, List.length_take]; omega), sup hD s1, ?_⟩
        rw [upd_same, take_next1 hx, List.map_append, List.map_append, List.map_singleton, List.map_singleton, ev]
    rintro G ⟨s1, hD1⟩
    rw [List.length_map, List.take_length] at hD1
    have hsort : ((l.map (vt v))).Perm ((l.mergeSort (leV v)).map (vt v)) := ((List.mergeSort_perm l (leV v)).map _).symm
    have hpw : ((l.mergeSort (leV v)).map (vt v)).Pairwise fun a b => b ≤ a := by
      rw [List.pairwise_map]
      exact sorted_V v l
    have e6 := sure_drop v u.toNat l
    have hlen : ((l.mergeSort (leV v)).map (vt v)).length = l.length := by rw [List.length_map, List.length_mergeSort]
    generalize (l.mergeSort (leV v)).map (vt v) = ds at hsort hpw e6 hlen
    have hll : (((l.map (vt v)).map V.int).length : Int) = l.length := by rw [List.length_map, List.length_map]
    obtain ⟨N, hN, eN⟩ : ∃ N : Nat, (N ≤ l.length ∧ (N : Int) ≤ u ∧ (u < l.length → N = u.toNat) ∧ ((l.length : Int) ≤ u → N = l.length)) ∧ (if (((l.map (vt v)).map V.int).length : Int) < u then (((l.map (vt v)).map V.int).length : Int) else u) = (N : Int) := by
      have := vl.u0
      rw [hll]
      by_cases h : (l.length : Int) < u
      · exact ⟨l.length, ⟨Nat.le_refl _, by omega, fun _ => by omega, fun _ => rfl⟩, by rw [if_pos h]⟩
      · exact ⟨u.toNat, ⟨by omega, by omega, fun _ => rfl, fun _ => by omega⟩, by rw [if_neg h]; omega⟩
    refine ⟨_, rfl, _, rfl, D, _, rfl, .inl (SqL.of hD1), _, _, rfl, ?_⟩
    refine ⟨(N : Int), by rw [eN], by omega, by omega, ?_⟩
    refine for_range (n := N) (fun i σ F => (∃ x4, σ = [some (.ref a), some (.ref b), some (.int u), some (.ref D), x4, none, none]) ∧ Same H F ∧ ∃ ms : Z, F D = some (.lst (ms.map V.int)) ∧ ms.Perm (ds.drop i)) ⟨⟨_, rfl⟩, s1, _, hD1, hsort⟩ ?_ ?_
    · rintro i σ F hi ⟨⟨x4, rfl⟩, s2, ms, hms, pm⟩
      have lm := pm.length_eq
      rw [List.length_drop] at lm
      obtain ⟨d, hd⟩ : ∃ d, ds[i]? = some d := ⟨_, List.getElem?_eq_getElem (by omega)⟩
      have dd : ds.drop i = d :: ds.drop (i + 1) := by
        obtain ⟨h1, h2⟩ := List.getElem?_eq_some_iff.mp hd
        rw [List.drop_eq_getElem_cons h1, h2]; skip
      rw [dd] at pm
      refine ⟨_, rfl, .inl ⟨rfl, _, SqL.of hms⟩, _, rfl, .inl ⟨rfl, _, SqL.of hms⟩, _, rfl, D, rfl, ⟨_, SqL.of hms⟩, fun D2 hD2 => ?_⟩
      refine walk_core (walk_list (K := K) (a := D) (xs := ms.map V.int)) (fun k G2 => Same F G2 ∧ G2 D2 = some (.lst ((ms.take k).map V.int))) ⟨same_up hD2, upd_same⟩ (fun _ _ _ g => SqL.of (g.1 _ _ hms)) ?_ ?_
      · rintro k y G2 G3 hk ⟨s3, h3⟩ ⟨rfl, hy⟩
        obtain ⟨x, hx, rfl⟩ := zV_get hy
        refine ⟨rfl, _, rfl, .inl ⟨_, rfl, _, h3, small1000 (by rw [List.length_map, List.length_take]; omega), sup hD2 s3, ?_⟩⟩
        rw [upd_same, take_next1 hx, List.map_append]
        rfl
      rintro G2 ⟨s3, h3⟩
      rw [List.length_map, List.take_length] at h3
      refine ⟨D2, ms, rfl, SqL.of h3, by omega, fun m hm mx => ?_⟩
      obtain ⟨j, hj, hf⟩ := first_at hm
      have hms2 := s3 _ _ hms
      have jl : j < ms.length := (List.getElem?_eq_some_iff.mp hj).1
      have jV : (ms.map V.int)[j]? = some (.int m) := by rw [List.getElem?_map, hj]; rfl
      have lV : (ms.map V.int).length = ms.length := List.length_map _
      refine ⟨D, ms.map V.int, .int m, j, .int m, rfl, rfl, SqL.of hms2, rfl, flatZ ms, jV, by show (m == m) = true; simp, fun k z' hk hz' => ?_, ?_⟩
      · obtain ⟨x, hx, rfl⟩ := zV_get hz'
        have := hf k x hk hx
        show (x == m) = false
        simpa using this
      have h63 := line63
      refine ⟨D, ms.map V.int, (j : Int), j, .int m, rfl, rfl, hms2, by omega, by omega, ?_, jV, ⟨_, rfl⟩, sup hD (s2.trans s3), ms.eraseIdx j, by rw [upd_same, map_eraseIdx], ?_⟩
      · rw [seqIndex_of (by omega) (by omega)]
        rfl
      · have md : m = d := by
          have h1 : d ≤ m := mx d (pm.mem_iff.mpr List.mem_cons_self)
          rcases List.mem_cons.mp (pm.mem_iff.mp hm) with e | e
          · exact e
          · have h2 : m ≤ d := by
              have p2 := hpw.sublist (List.drop_sublist i ds)
              rw [dd] at p2
              exact (List.pairwise_cons.mp p2).1 m e
            omega
        have pe := ((erase_perm hj).symm.trans pm)
        rw [md] at pe
        exact pe.cons_inv
    · rintro σ F ⟨⟨x4, rfl⟩, s2, ms, hms, pm⟩
      refine ⟨_, rfl, D, ms, rfl, SqL.of hms, ?_⟩
      have e7 : ms.sum = sureP v u.toNat l := by
        rw [e6, perm_sum pm]
        by_cases h : u < l.length
        · rw [hN.2.2.1 h]
        · rw [hN.2.2.2 (by omega), List.drop_of_length_le (by omega), List.drop_of_length_le (by omega)]
      rw [e7]
      exact q F s2
end
end Pl

namespace Pl
open L2 PySem PySem.Spec PyProof.Rows RZ
theorem But.of_ext {z : Addr} {H G : Hp} (s : Same H G) : But z H G := But.of s
theorem Vok.sum9 {v : Z} (h : Vok v) : v.sum ≤ 45 := by
  have key : ∀ {v : Z}, (∀ x ∈ v, 0 ≤ x ∧ x ≤ 9) → v.sum ≤ 9 * v.length := fun {v} => by
    induction v with
    | nil => intro _; simp
    | cons x v ih =>
      intro h
      have h1 := h x List.mem_cons_self
      have h2 := ih fun y hy => h y (List.mem_cons_of_mem _ hy)
      rw [List.sum_cons, List.length_cons]; skip
      omega
  have := key h.rng
  have := h.len
  omega
/-- one of them at least -/
theorem sum_pos {v : Z} {m : Int} (h : ∀ x ∈ v, 0 ≤ x) (hm : m ∈ v) : m ≤ v.sum := by
  induction v with
  | nil => cases hm
  | cons x v ih =>
    rw [List.sum_cons]
    have h0 := h x List.mem_cons_self
    have nn : ∀ v : Z, (∀ x ∈ v, 0 ≤ x) → 0 ≤ v.sum := fun v => by
      induction v with
      | nil => intro _; exact Int.le_refl _
      | cons x v ih =>
        intro h
        rw [List.sum_cons]
        have := h x List.mem_cons_self
        have := ih fun y hy => h y (List.mem_cons_of_mem _ hy)
        omega
    rcases List.mem_cons.mp hm with e | e; skip
    · have := nn v fun y hy => h y (List.mem_cons_of_mem _ hy)
      omega
    · have := ih (fun y hy => h y (List.mem_cons_of_mem _ hy)) e
      omega
theorem map_set (v : Z) (j : Nat) (x : Int) : (v.map V.int).set j (V.int x) = (v.set j x).map V.int := by
  rw [List.map_set]
def spLVotes : Sp := fun vs H Q _ => ∃ (z : Addr) (n : Int), vs = [.ref z, .int n] ∧ Src z H ∧ 1 ≤ n ∧ n ≤ 5 ∧ ∀ t (v : Z) G, But z H G → Src z G → t ≠ z → H t = none → G t = some (.tup (v.map V.int)) → (v.length : Int) = n → Vok v → Q (.ref t) G
def spCase : Sp := fun vs H Q _ => ∃ (z : Addr), vs = [.ref z, .int 5] ∧ Src z H ∧ ∀ p t (v : Z) (d u : Int) G, But z H G → Src z G → H p = none → p ≠ z → t ≠ z → G p = some (.lst [.int v.length, .ref t, .int d, .int u]) → G t = some (.tup (v.map V.int)) → Vok v → 1 ≤ d → d ≤ v.sum → 0 ≤ u → u ≤ v.length → Q (.ref p) G
abbrev nLV : List Str := ["_law_source", "_law_many", "_law_found", "_law_copy"]
abbrev nCa : List Str := ["_law_source", "_law_most", "_law_many", "_law_votes_here"]
section
variable {P : Program} {K : PySem.W.Frag} {w : World} {base : Heap} {mg : Str → Option Value}
theorem scLEn : FnScope ["_law_votes_here", "_law_need_here", "_law_unruly_here", "_law_lot"] ["_law_votes_here", "_law_need_here", "_law_unruly_here", "_law_lot"] (defScope sLEnough) := ⟨rfl, rfl, rfl, by decide +kernel, rfl, by decide +kernel, by decide +kernel⟩
theorem ok_len {f : Addr} {fd : FuncData} (F : Fun K "_law_is_enough" "_law_is_enough" sLEnough f fd) (T : Cst mg) (D1 : Df P w K mg base 1 "_law_sure" ["_law_votes_here", "_law_lot", "_law_unruly_here"] spLSure) : FnOk P w K mg base CX0 2 f fd ["_law_votes_here", "_law_need_here", "_law_unruly_here", "_law_lot"] spLEn := by
  obtain ⟨e1, fd1, G1, m1, k1, b1⟩ := D1.ex
  refine F.ok scLEn (fun vs H Q E h => ?_) (fun cdv A outer s0 H vs Q E hr h => ?_)
  · obtain ⟨a, b, v, l, n, u, rfl, _⟩ := h
    rfl
  · obtain ⟨a, b, v, l, n, u, rfl, ha, hb, vl, q⟩ := h
    refine ⟨_, pss_one (ps_ret (pe_cmpR op_gt (pe_call G1 hr (by rfl) m1 k1 b1 .nil pass0 (pa_cons (pv 0) (pa_cons (pv 3) (pa_cons (pv 2) pa_nil)))) (pe_op op_sub (pe_callB (cr_sumT rfl) (by rfl) T.sum_ (by decide +kernel) (pa_cons (pv 0) pa_nil)) (pv 1)) (nomark _))), ?_⟩
    refine ⟨_, rfl, _, rfl, _, rfl, a, b, v, l, u, rfl, ha, hb, vl, fun G s1 => ?_⟩
    refine ⟨_, rfl, a, v, rfl, SqT.of (s1 _ _ ha), _, rfl, rI0_to rfl (rI0_to (v := V.bl (enoughP v n u.toNat l)) rfl (q G s1))⟩
theorem scMeets : FnScope nME ["_law_lot", "_law_other", "_law_unruly_here"] (defScope sMeets) := ⟨rfl, rfl, rfl, by decide +kernel, rfl, by decide +kernel, by decide +kernel⟩
theorem ok_meets {f : Addr} {fd : FuncData} (F : Fun K "_law_meets" "_law_meets" sMeets f fd) (T : Cst mg) : FnOk P w K mg base CX0 1 f fd ["_law_lot", "_law_other", "_law_unruly_here"] spMeets := by
  refine F.ok scMeets (fun vs H Q E h => ?_) (fun cdv A outer s0 H vs Q E hr h => ?_)
  · obtain ⟨a, b, l, m, u, rfl, _⟩ := h
    rfl
  · obtain ⟨a, b, l, m, u, rfl, ha, hb, ll, q⟩ := h
    refine ⟨_, pss_one (ps_ret (pe_cmpR op_gt (pe_callB (show CallR _ (.builtin "len") (rLenQ K) from call_len_seq) (by rfl) T.len PySem.boot_len (pa_cons (pe_lc (own := [("_law_copy", 3)]) (g := gName 3) (tt := _) rfl scMeets.nd (pi_tup (pv 0)) (blkOk_by (own := [("_law_copy", 3)]) (N := nME) (sc := defScope sMeets) (by decide +kernel))
          (fun _ _ _ _ _ => pg_name (i := 3) scMeets.nd rfl (Or.inl rfl)) (fun _ _ _ _ _ => pts_one (pt_cmpR (show OpR _ (compareOp .In) (rIn K false) from op_in_seq) (pv 3) (pv 1) (by rfl))) (fun _ _ _ _ _ => pv 3)) pa_nil)) (pv 2) (nomark _))), ?_⟩
    refine ⟨_, rfl, a, rfl, ⟨_, SqT.of ha⟩, fun D hD => ?_⟩
    refine walk_core (walk_tup (K := K) (a := a) (xs := l.map V.int)) (fun i G => Same H G ∧ G D = some (.lst (((l.take i).filter (has m)).map V.int))) ⟨same_up hD, upd_same⟩ (fun _ _ _ g => SqT.of (g.1 _ _ ha)) ?_ ?_
    · rintro i y G G' hi ⟨s1, h1⟩ ⟨rfl, hy⟩
      obtain ⟨x, hx, rfl⟩ := zV_get hy
      have fs := filt_snoc hx (has m)
      refine ⟨rfl, _, rfl, _, rfl, b, _, rfl, .inr (SqT.of (s1 _ _ hb)), rfl, flatZ m, _, rfl, ?_⟩
      have e1 : inV (.int x) (m.map V.int) = has m x := inZ x m
      refine ite2 (fun e => ?_) fun e => ?_
      · have e : has m x = true := e1 ▸ e
        rw [if_pos e] at fs
        refine ⟨_, rfl, _, h1, small1000 (by rw [List.length_map]; exact Nat.le_trans (filt_len l i _) (by omega)), sup hD s1, ?_⟩
        rw [upd_same, fs, List.map_append]
        rfl
      · have e : ¬ has m x = true := fun z => e (e1.symm ▸ z)
        rw [if_neg e, List.append_nil] at fs
        exact ⟨s1, by rw [fs]; exact h1⟩
    · rintro G ⟨s1, h1⟩
      rw [List.length_map, List.take_length] at h1
      refine ⟨D, _, rfl, .inl (SqL.of h1), _, rfl, rI0_to (v := V.bl (decide (u < ((cap l m).length : Nat)))) ?_ (q G s1)⟩
      rw [List.length_map]
      rfl
theorem scLAll : FnScope nLA ["_law_many"] (defScope sLAll) := ⟨rfl, rfl, rfl, by decide +kernel, rfl, by decide +kernel, by decide +kernel⟩
theorem ok_lall {f : Addr} {fd : FuncData} (F : Fun K "_law_all_lots" "_law_all_lots" sLAll f fd) (T : Cst mg) : FnOk P w K mg base CX0 1 f fd ["_law_many"] spLAll := by
  refine F.ok scLAll (fun vs H Q E h => ?_) (fun cdv A outer s0 H vs Q E hr h => ?_)
  · obtain ⟨n, rfl, _⟩ := h
    rfl
  · obtain ⟨n, rfl, n0, n5, q⟩ := h
    refine ⟨_, pss_cons (ps_set (i := 1) scLAll.nd rfl (Or.inl rfl) (pe_lst (pa_cons (pe_tup pa_nil) pa_nil)))
      (pss_cons (ps_for PassesOwn.never rfl (pi_range1 rfl T.rng (pa_cons (pv 0) pa_nil)) (pg_name (i := 2) scLAll.nd rfl (Or.inr rfl))
        (pss_one (ps_set (i := 1) scLAll.nd rfl (Or.inl rfl) (pe_op op_cat (pv 1) (pe_lc (own := [("_law_lot", 3)]) (g := gName 3) (tt := tYes) rfl scLAll.nd (pi_list (pv 1)) (blkOk_by (own := [("_law_lot", 3)]) (N := nLA) (sc := defScope sLAll) (by decide +kernel))
          (fun _ _ _ _ _ => pg_name (i := 3) scLAll.nd rfl (Or.inl rfl)) (fun _ _ _ _ _ => pts_nil) (fun _ _ _ _ _ => pe_op (show OpR _ (binaryOp .Add) (rCatA K) from op_catA) (pv 3) (pe_tup (pa_cons (pv 2) pa_nil))))))))
      (pss_one (ps_ret (pv 1)))), ?_⟩
    refine ⟨by show 0 ≤ sizeLine; decide, fun t0 ht0 => ⟨by show 1 ≤ sizeLine; decide, fun p0 hp0 => ?_⟩⟩
    have sA : Same H (upd H t0 (.tup [])) := same_up ht0
    have fA : upd H t0 (.tup []) t0 = some (.tup []) := upd_same
    generalize upd H t0 (.tup []) = G0 at sA fA hp0 ⊢
    have sB : Same G0 (upd G0 p0 (.lst [.ref t0])) := same_up hp0
    have hp : upd G0 p0 (.lst [.ref t0]) p0 = some (.lst [.ref t0]) := upd_same
    have f0 := sB _ _ fA
    have s0 := sA.trans sB
    generalize upd G0 p0 (.lst [.ref t0]) = G1 at s0 hp f0 ⊢
    refine ⟨_, rfl, n, rfl, by omega, by omega, ?_⟩
    refine for_it (walk_range (lo := 0) (n := n.toNat)) (fun i σ G => ∃ d L x3, σ = [some (.int n), some (.ref d), x3, none] ∧ Same H G ∧ Lots G d L ∧ L.map (·.2) = subs ((rgZ n).take i))
      ⟨p0, [(t0, [])], _, rfl, s0, ⟨hp, fun q hq => by
        rw [List.mem_singleton] at hq
        rw [hq]
        exact f0⟩, rfl⟩ (fun _ _ _ _ _ => trivial) ?_ ?_
    · rintro i y σ G G' hi ⟨d, L, x3, rfl, s1, hL, eL⟩ ⟨rfl, rfl⟩
      have hx := rgZ_get hi
      have lL : L.length ≤ 32 := by
        have e := congrArg List.length eL
        rw [List.length_map, subs_len, List.length_take] at e
        rw [e]
        exact pow5 (by omega)
      have lq : ∀ q ∈ L, q.2.length ≤ 5 := fun q hq => by
        have m : q.2 ∈ subs ((rgZ n).take i) := eL ▸ List.mem_map.mpr ⟨q, hq, rfl⟩
        have := (mem_subs.mp m).length_le
        rw [List.length_take] at this
        omega
      refine ⟨_, rfl, _, rfl, d, rfl, ⟨_, SqL.of hL.1⟩, fun D hD => ?_⟩
      refine walk_core (walk_list (K := K) (a := d) (xs := refs L)) (fun j F => ∃ M : List AT, Same G' F ∧ Lots F D M ∧ M.map (·.2) = ((L.take j).map (·.2)).map (· ++ [0 + (i : Int)])) ⟨[], same_up hD, ⟨upd_same, fun q hq => by cases hq⟩, by rw [List.take_zero]; rfl⟩ (fun _ _ _ h => by
        obtain ⟨_, h, _⟩ := h
        exact SqL.of (h _ _ hL.1)) ?_ ?_
      · rintro j y F F' hj ⟨M, s2, hM, eM⟩ ⟨rfl, hy⟩
        obtain ⟨r, hr', rfl⟩ := refs_get hy
        have rL := List.mem_of_getElem? hr'
        have h5 := lq r rL
        refine ⟨rfl, _, rfl, _, rfl, by show 1 ≤ sizeLine; decide, fun t1 ht1 => ?_⟩
        have s3 := same_up (o := .tup [.int (0 + (i : Int))]) ht1
        have f3 : upd F' t1 (.tup [.int (0 + (i : Int))]) t1 = some (.tup [.int (0 + (i : Int))]) := upd_same
        refine cat_any (s3 _ _ (s2 _ _ (hL.2 r rL))) f3 (by rw [List.length_map]; show r.2.length + 1 ≤ 1000; omega) fun p F2 s4 hp2 => ?_
        have s34 := s3.trans s4
        have hA : Lots (upd F2 D (.lst (refs M ++ [.ref p]))) D (M ++ [(p, r.2 ++ [0 + (i : Int)])]) := lots_app (q := (p, r.2 ++ [0 + (i : Int)])) (hM.same s34) (by rw [List.map_append]; exact hp2)
        refine ⟨_, s34 _ _ hM.1, ?_, M ++ [(p, r.2 ++ [0 + (i : Int)])], sup hD (s2.trans s34), hA, ?_⟩
        · have e := congrArg List.length eM
          rw [List.length_map, List.length_map, List.length_map, List.length_take] at e
          exact small1000 (by rw [refs_len]; omega)
        · rw [List.map_append, eM, take_next1 hr', List.map_append, List.map_append]
          rfl
      · rintro F ⟨M, s2, hM, eM⟩
        rw [refs_len, List.take_length] at eM
        have lM : M.length = L.length := by
          have e := congrArg List.length eM
          simpa using e
        have hL2 := hL.same s2
        refine ⟨d, D, _, _, rfl, rfl, hL2.1, hM.1, Nat.le_of_lt (small1000 (by rw [refs_len, refs_len]; omega)), fun p2 hp2 => ?_⟩
        have s5 := same_up (o := .lst (refs L ++ refs M)) hp2
        refine ⟨p2, L ++ M, _, rfl, (s1.trans s2).trans s5, ⟨by rw [upd_same, refs_app], fun q hq => ?_⟩, ?_⟩
        · rcases List.mem_append.mp hq with h | h
          · exact s5 _ _ (hL2.2 q h)
          · exact s5 _ _ (hM.2 q h)
        · rw [List.map_append, eM, take_next1 hx, subs_snoc, eL]
          rfl
    · rintro σ G ⟨d, L, x3, rfl, s1, hL, eL⟩
      rw [← rgZ_len n, List.take_length] at eL
      exact ⟨_, rfl, q d L G s1 hL eL⟩
theorem scInS : FnScope nIS ["_law_lots"] (defScope sInSize) := ⟨rfl, rfl, rfl, by decide +kernel, rfl, by decide +kernel, by decide +kernel⟩
theorem ok_ins {f : Addr} {fd : FuncData} (F : Fun K "_law_in_size" "_law_in_size" sInSize f fd) (T : Cst mg) : FnOk P w K mg base CX0 1 f fd ["_law_lots"] spInS := by
  refine F.ok scInS (fun vs H Q E h => ?_) (fun cdv A outer s0 H vs Q E hr h => ?_)
  · obtain ⟨a, L, rfl, _⟩ := h
    rfl
  · obtain ⟨a, L, rfl, hL, lL, fL, q⟩ := h
    have hu : (A.deeper (envOfC "_law_in_size" (defScope sInSize) s0.heap.objs.size f cdv)).units + 64 < cLine := by
      have := hr.un
      omega
    refine ⟨_, pss_cons (ps_set (i := 1) scInS.nd rfl (Or.inl rfl) (pe_lst pa_nil))
      (pss_cons (ps_for PassesOwn.never rfl (pi_range1 rfl T.rng (pa_cons pe_int pa_nil)) (pg_name (i := 2) scInS.nd rfl (Or.inr rfl))
        (pss_one (ps_set (i := 1) scInS.nd rfl (Or.inl rfl) (pe_op op_cat (pv 1) (pe_callB (show CallR _ (.builtin "sorted") (rSortX K) from cr_sortX hu) (by rfl) T.srt (by decide +kernel) (pa_cons (pe_lc (own := [("_law_lot", 3)]) (g := gName 3) (tt := _) rfl scInS.nd (pi_list (pv 0)) (blkOk_by (own := [("_law_lot", 3)]) (N := nIS) (sc := defScope sInSize) (by decide +kernel))
          (fun _ _ _ _ _ => pg_name (i := 3) scInS.nd rfl (Or.inl rfl)) (fun _ _ _ _ _ => pts_one (pt_cmpR op_eq (pe_callB (show CallR _ (.builtin "len") (rLenQ K) from call_len_seq) (by rfl) T.len PySem.boot_len (pa_cons (pv 3) pa_nil)) (pv 2) (nomark _))) (fun _ _ _ _ _ => pv 3)) pa_nil))))))
      (pss_one (ps_ret (pv 1)))), ?_⟩
    refine ⟨by show 0 ≤ sizeLine; decide, fun p0 hp0 => ?_⟩
    have sA := same_up (o := .lst []) hp0
    have f0 : upd H p0 (.lst []) p0 = some (.lst []) := upd_same
    generalize upd H p0 (.lst []) = G1 at sA f0 ⊢
    refine ⟨(6 : Int), rfl, by omega, by omega, ?_⟩
    refine for_it (walk_range (lo := 0) (n := 6)) (fun i σ G => ∃ d M x2, σ = [some (.ref a), some (.ref d), x2, none] ∧ Same H G ∧ Lots G d M ∧ M.map (·.2) = (List.range i).flatMap (fun k => (ofLen (L.map (·.2)) k).mergeSort leE) ∧ M.length ≤ 32 * i)
      ⟨p0, [], _, rfl, sA, ⟨f0, fun q hq => by cases hq⟩, rfl, Nat.le_refl _⟩ (fun _ _ _ _ _ => trivial) ?_ ?_
    · rintro i y σ G G' hi ⟨d, M, x2, rfl, s1, hM, eM, lM⟩ ⟨rfl, rfl⟩
      have hL1 := hL.same s1
      refine ⟨_, rfl, _, rfl, a, rfl, ⟨_, SqL.of hL1.1⟩, fun D hD => ?_⟩
      refine walk_core (walk_list (K := K) (a := a) (xs := refs L)) (fun j F => Same G' F ∧ F D = some (.lst (refs ((L.take j).filter fun q => decide (q.2.length = i))))) ⟨same_up hD, upd_same⟩ (fun _ _ _ g => SqL.of (g.1 _ _ hL1.1)) ?_ ?_
      · rintro j y F F' hj ⟨s2, h2⟩ ⟨rfl, hy⟩
        obtain ⟨r, hr', rfl⟩ := refs_get hy
        have rL := List.mem_of_getElem? hr'
        refine ⟨rfl, _, rfl, r.1, _, rfl, .inr (SqT.of (s2 _ _ (hL1.2 r rL))), _, rfl, rfl, _, rfl, ?_⟩
        have fs := filt_snoc hr' (fun q : AT => decide (q.2.length = i))
        rw [intEq, List.length_map]
        have ei : decide (((r.2.length : Nat) : Int) = 0 + (i : Int)) = decide (r.2.length = i) := decide_eq_decide.mpr (by omega)
        rw [ei]
        refine ite2 (fun e => ?_) fun e => ?_
        · rw [if_pos e] at fs
          refine ⟨_, rfl, _, h2, small1000 (by rw [refs_len]; exact Nat.le_trans (filt_len L j _) (by omega)), sup hD s2, ?_⟩
          rw [upd_same, fs, refs_app]
          rfl
        · rw [if_neg e, List.append_nil] at fs
          exact ⟨s2, by rw [fs]; exact h2⟩
      · rintro F ⟨s2, h2⟩
        rw [refs_len, List.take_length] at h2
        have tk : ∀ q ∈ L.filter (fun q => decide (q.2.length = i)), F q.1 = some (.tup (q.2.map V.int)) := fun q hq => s2 _ _ (hL1.2 q (List.mem_filter.mp hq).1)
        refine ⟨D, _, rfl, SqL.of h2, fun p hp => SqT.of (tk p hp), fun p hp => ?_⟩
        have s3 := same_up (o := .lst (refs ((L.filter fun q => decide (q.2.length = i)).mergeSort (PySem.W.dataLe false encT)))) hp
        have f3 : upd F p (.lst (refs ((L.filter fun q => decide (q.2.length = i)).mergeSort (PySem.W.dataLe false encT)))) p = some (.lst (refs ((L.filter fun q => decide (q.2.length = i)).mergeSort (PySem.W.dataLe false encT)))) := upd_same
        have pm := List.mergeSort_perm (L.filter fun q => decide (q.2.length = i)) (PySem.W.dataLe false encT)
        have es := sort_E (L.filter fun q => decide (q.2.length = i))
        have ls : ((L.filter fun q => decide (q.2.length = i)).mergeSort (PySem.W.dataLe false encT)).length ≤ 32 := by
          rw [pm.length_eq]
          exact Nat.le_trans (List.length_filter_le _ _) lL
        have tk3 : ∀ q ∈ (L.filter fun q => decide (q.2.length = i)).mergeSort (PySem.W.dataLe false encT), F q.1 = some (.tup (q.2.map V.int)) := fun q hq => tk q (pm.mem_iff.mp hq)
        generalize (L.filter fun q => decide (q.2.length = i)).mergeSort (PySem.W.dataLe false encT) = S at s3 f3 es ls tk3 ⊢
        have hM3 := (hM.same s2).same s3
        generalize upd F p (.lst (refs S)) = F3 at s3 f3 hM3 ⊢
        refine ⟨d, p, _, _, rfl, rfl, hM3.1, f3, Nat.le_of_lt (small1000 (by rw [refs_len, refs_len]; omega)), fun p2 hp2 => ?_⟩
        have s5 := same_up (o := .lst (refs M ++ refs S)) hp2
        refine ⟨p2, M ++ S, _, rfl, ((s1.trans s2).trans s3).trans s5, ⟨by rw [upd_same, refs_app], fun q hq => ?_⟩, ?_, by rw [List.length_append]; omega⟩
        · rcases List.mem_append.mp hq with h | h
          · exact s5 _ _ (hM3.2 q h)
          · exact s5 _ _ (s3 _ _ (tk3 q h))
        · rw [List.map_append, eM, es, List.range_succ, List.flatMap_append, List.flatMap_singleton]
          unfold ofLen
          rw [List.filter_map]
          rfl
    · rintro σ G ⟨d, M, x2, rfl, s1, hM, eM, lM⟩
      exact ⟨_, rfl, q d M G s1 hM eM⟩
end
end Pl

namespace Pl
open L2 PySem PySem.Spec PyProof.Rows RZ
theorem Src.ne {z D : Addr} {H : Hp} (h : Src z H) (f : H D = none) : D ≠ z := fun e => by
  obtain ⟨o, ho⟩ := h.some
  rw [e, ho] at f
  cases f
theorem But.fresh {z b : Addr} {H G : Hp} (h : But z H G) (f : G b = none) (n : b ≠ z) : H b = none := by
  cases c : H b with
  | none => rfl
  | some o =>
    rw [h b o n trivial c] at f
    cases f
section
variable {P : Program} {K : PySem.W.Frag} {w : World} {base : Heap} {mg : Str → Option Value}
theorem scLVo : FnScope nLV ["_law_source", "_law_many"] (defScope sLVotes) := ⟨rfl, rfl, rfl, by decide +kernel, rfl, by decide +kernel, by decide +kernel⟩
theorem ok_lvotes {f : Addr} {fd : FuncData} (F : Fun K "_law_votes" "_law_votes" sLVotes f fd) (T : Cst mg) (DT : Df P w K mg base 1 "_law_take" ["_law_source", "_law_top"] spTake) (DO : Df P w K mg base 2 "_law_one" ["_law_source", "_law_things"] spOne) : FnOk P w K mg base CX0 3 f fd ["_law_source", "_law_many"] spLVotes := by
  obtain ⟨gT, fdT, GT, mT, kT, bT⟩ := DT.ex
  obtain ⟨gO, fdO, GO, mO, kO, bO⟩ := DO.ex
  refine F.ok scLVo (fun vs H Q E h => ?_) (fun cdv A outer s0 H vs Q E hr h => ?_)
  · obtain ⟨z, n, rfl, _⟩ := h
    rfl
  · obtain ⟨z, n, rfl, hz, n1, n5, q⟩ := h
    refine ⟨_, pss_cons (ps_setLc (i := 2) (own := [("_law_copy", 3)]) (g := gName 3) (tt := tYes) rfl scLVo.nd rfl rfl (sw_true rfl rfl rfl (by decide +kernel)) (pi_range1 (by rfl) T.rng (pa_cons (pv 1) pa_nil)) (blkOk_by (own := [("_law_copy", 3)]) (N := nLV) (sc := defScope sLVotes) (by decide +kernel))
          (fun _ _ _ _ _ => pg_name (i := 3) scLVo.nd rfl (Or.inl rfl)) (fun _ _ _ _ _ => pts_nil) (fun _ _ _ _ _ => pe_call GT (hr.mono (by decide)) (by rfl) mT kT bT .nil pass0 (pa_cons (pv 0) (pa_cons (pe_call GO hr (by rfl) mO kO bO .nil pass0 (pa_cons (pv 0) (pa_cons (pe_lst (pa_cons pe_int (pa_cons pe_int (pa_cons pe_int pa_nil)))) pa_nil))) pa_nil))))
      (pss_cons (ps_asg (pe_op op_add pe_int (pe_call GT (hr.mono (by decide)) (by rfl) mT kT bT .nil pass0 (pa_cons (pv 0) (pa_cons pe_int pa_nil)))) (pg_sub (pv 2) (pe_call GT (hr.mono (by decide)) (by rfl) mT kT bT .nil pass0 (pa_cons (pv 0) (pa_cons (pv 1) pa_nil))) L2.set_list))
      (pss_one (ps_ret (pe_callTy (show CallR _ (.type "tuple") (rTupOf K) from call_tuple_of) (by rfl) T.ttup (by decide +kernel) (pa_cons (pv 2) pa_nil))))), ?_⟩
    refine ⟨_, rfl, n, rfl, by omega, by omega, fun D hD => ?_⟩
    have Dz := hz.ne hD
    refine walk_core (walk_range (lo := 0) (n := n.toNat)) (fun j F => ∃ v : Z, v.length = j ∧ (∀ x ∈ v, 0 ≤ x ∧ x ≤ 9) ∧ But z H F ∧ Src z F ∧ F D = some (.lst (v.map V.int))) ⟨[], rfl, (fun x hx => by cases hx), But.new hD, hz.upd Dz, upd_same⟩ (fun _ _ _ _ => trivial) ?_ ?_
    · rintro j y F F' hj ⟨v, lv, rv, bF, zF, hv⟩ ⟨rfl, rfl⟩
      refine ⟨rfl, _, rfl, _, rfl, by show 3 ≤ sizeLine; decide, fun t ht => ?_⟩
      have tz := zF.ne ht
      have sT : Same F' (upd F' t (.lst [.int 2, .int 4, .int 10])) := same_up ht
      refine ⟨z, t, [.int 2, .int 4, .int 10], rfl, zF.upd tz, upd_same, tz, by decide, by decide, fun i x F2 hx b2 z2 => ?_⟩
      have hx2 : ∃ k : Int, x = .int k ∧ 0 < k ∧ k ≤ 10 := by
        match i, hx with
        | 0, e => exact ⟨2, (Option.some.inj e).symm, by decide, by decide⟩
        | 1, e => exact ⟨4, (Option.some.inj e).symm, by decide, by decide⟩
        | 2, e => exact ⟨10, (Option.some.inj e).symm, by decide, by decide⟩
        | n + 3, e => simp at e
      obtain ⟨k, rfl, k0, k1⟩ := hx2
      refine ⟨z, k, rfl, z2, k0, by omega, fun r F3 r0 r1 b3 z3 => ?_⟩
      have b123 := ((But.of sT).trans b2).trans b3
      have hv3 := b123 _ _ Dz trivial hv
      refine ⟨_, hv3, small1000 (by rw [List.length_map]; omega), v ++ [r], by rw [List.length_append, lv]; rfl, fun x hx => ?_, But.sup hD (bF.trans b123), z3.upd Dz, by rw [upd_same, List.map_append]; rfl⟩
      rcases List.mem_append.mp hx with h | h
      · exact rv x h
      · rw [List.mem_singleton] at h
        omega
    rintro F ⟨v, lv, rv, bF, zF, hv⟩
    refine ⟨_, rfl, z, 3, rfl, zF, by decide, by decide, fun r G1 r0 r1 b1 z1 => ?_⟩
    refine rI0_to (v := V.int (1 + r)) rfl ?_
    refine ⟨_, rfl, _, rfl, _, rfl, z, n, rfl, z1, by omega, by omega, fun k G2 k0 k1 b2 z2 => ?_⟩
    have b12 := b1.trans b2
    have hv2 := b12 _ _ Dz trivial hv
    refine ⟨D, _, k, k.toNat, rfl, rfl, hv2, ?_, ?_⟩
    · unfold ixN
      rw [List.length_map, if_pos k0, if_pos (by omega)]
    rw [map_set]
    have fD : upd G2 D (.lst ((v.set k.toNat (1 + r)).map V.int)) D = some (.lst ((v.set k.toNat (1 + r)).map V.int)) := upd_same
    have bD : But z H (upd G2 D (.lst ((v.set k.toNat (1 + r)).map V.int))) := But.sup hD (bF.trans b12)
    have zD := z2.upd (o := .lst ((v.set k.toNat (1 + r)).map V.int)) Dz
    generalize upd G2 D (.lst ((v.set k.toNat (1 + r)).map V.int)) = G3 at fD bD zD ⊢
    refine ⟨_, rfl, D, _, rfl, .inl ⟨SqL.of fD, fun t ht => ?_⟩⟩
    have tz := zD.ne ht
    have rng : ∀ x ∈ v.set k.toNat (1 + r), 0 ≤ x ∧ x ≤ 9 := fun x hx => by
      rcases List.mem_or_eq_of_mem_set hx with h | h
      · exact rv x h
      · omega
    refine q t (v.set k.toNat (1 + r)) _ (But.sup (bD.fresh ht tz) bD) (zD.upd tz) tz (bD.fresh ht tz) upd_same (by rw [List.length_set]; omega) ⟨by rw [List.length_set]; omega, by rw [List.length_set]; omega, rng, ?_⟩
    have := sum_pos (v := v.set k.toNat (1 + r)) (m := 1 + r) (fun x hx => (rng x hx).1) (List.mem_set (l := v) (i := k.toNat) (by omega) (1 + r))
    omega
theorem scCase : FnScope nCa ["_law_source", "_law_most"] (defScope sCase) := ⟨rfl, rfl, rfl, by decide +kernel, rfl, by decide +kernel, by decide +kernel⟩
theorem ok_case {f : Addr} {fd : FuncData} (F : Fun K "_law_case" "_law_case" sCase f fd) (T : Cst mg) (DT : Df P w K mg base 1 "_law_take" ["_law_source", "_law_top"] spTake) (DV : Df P w K mg base 3 "_law_votes" ["_law_source", "_law_many"] spLVotes) : FnOk P w K mg base CX0 4 f fd ["_law_source", "_law_most"] spCase := by
  obtain ⟨gT, fdT, GT, mT, kT, bT⟩ := DT.ex
  obtain ⟨gV, fdV, GV, mV, kV, bV⟩ := DV.ex
  refine F.ok scCase (fun vs H Q E h => ?_) (fun cdv A outer s0 H vs Q E hr h => ?_)
  · obtain ⟨z, rfl, _⟩ := h
    rfl
  · obtain ⟨z, rfl, hz, q⟩ := h
    refine ⟨_, pss_cons (ps_set (i := 2) scCase.nd rfl (Or.inl rfl) (pe_op op_add pe_int (pe_call GT (hr.mono (by decide)) (by rfl) mT kT bT .nil pass0 (pa_cons (pv 0) (pa_cons (pv 1) pa_nil)))))
      (pss_cons (ps_set (i := 3) scCase.nd rfl (Or.inl rfl) (pe_call GV hr (by rfl) mV kV bV .nil pass0 (pa_cons (pv 0) (pa_cons (pv 2) pa_nil))))
      (pss_one (ps_ret (pe_lst (pa_cons (pv 2) (pa_cons (pv 3) (pa_cons (pe_op op_add pe_int (pe_call GT (hr.mono (by decide)) (by rfl) mT kT bT .nil pass0 (pa_cons (pv 0) (pa_cons (pe_callB (cr_sumT rfl) (by rfl) T.sum_ (by decide +kernel) (pa_cons (pv 3) pa_nil)) pa_nil)))) (pa_cons (pe_call GT (hr.mono (by decide)) (by rfl) mT kT bT .nil pass0 (pa_cons (pv 0) (pa_cons (pe_op op_add (pv 2) pe_int) pa_nil))) pa_nil)))))))), ?_⟩
    refine ⟨_, rfl, _, rfl, z, 5, rfl, hz, by decide, by decide, fun r G1 r0 r1 b1 z1 => ?_⟩
    obtain ⟨n, hn⟩ : ∃ n : Int, (1 : Int) + r = n := ⟨_, rfl⟩
    refine rI0_to (v := V.int n) (congrArg V.int hn) ?_
    refine ⟨_, rfl, _, rfl, z, n, rfl, z1, by omega, by omega, fun t v G2 b2 z2 tz ft hv lv vk => ?_⟩
    have s9 := vk.sum9
    have sp := vk.pos
    refine ⟨_, rfl, _, rfl, _, rfl, _, rfl, t, v, rfl, SqT.of hv, z, v.sum, rfl, z2, by omega, by omega, fun d G3 d0 d1 b3 z3 => ?_⟩
    refine rI0_to (v := V.int (1 + d)) rfl ?_
    refine ⟨_, rfl, _, rfl, n, 1, rfl, rfl, ?_⟩
    refine ⟨z, n + 1, rfl, z3, by omega, by omega, fun u G4 u0 u1 b4 z4 => ?_⟩
    refine ⟨by show 4 ≤ sizeLine; decide, fun p hp => ?_⟩
    have pz := z4.ne hp
    have bA := ((b1.trans b2).trans b3).trans b4
    have fp := bA.fresh hp pz
    have hv4 := (b3.trans b4) _ _ tz trivial hv
    refine q p t v (1 + d) u _ (But.sup fp bA) (z4.upd pz) fp pz tz (by rw [upd_same, lv]) ((upd_ne fun e => ?_).trans hv4) vk (by omega) (by omega) u0 (by omega)
    rw [← e, hv4] at hp
    cases hp
end
end Pl

namespace Pl
open L2 PySem PySem.Spec PyProof.Rows RZ
/-- what is told by refusals -/
def Rdv (H : Hp) (v : V) (d : PyData) : Prop := ∃ m z, Dv m z H false v d
theorem Rdv.same {H G : Hp} {v : V} {d : PyData} (h : Rdv H v d) (s : Same H G) : Rdv G v d := by
  obtain ⟨m, z, h⟩ := h
  exact ⟨m, z, Dv.to (But.of s) _ _ _ h⟩
def rReprR : List V → Hp → VK → Prop := fun xs H Q => ∃ (v : V) (d : PyData), xs = [v] ∧ Rdv H v d ∧ Shw d ∧ Q (.str d.shown) H
theorem call_reprR {X : Cx} (hg : X.A.guards = some []) (hu : X.A.units + 64 < cLine) : CallR X (.builtin "repr") rReprR := by
  intro pins s σ H xs us Q I r h; skip
  obtain ⟨v, d, rfl, ⟨m, z, hd⟩, S, q⟩ := h
  exact call_repr hg hu pins s σ H _ us Q I r ⟨m, z, v, d, rfl, hd, S, q⟩
def oddT : List PyData := [.tuple [], .tuple [.int 0, .int 0], .tuple [.int 1, .int 1, .int 1, .int 1, .int 1, .int 1], .tuple [.int 10], .tuple [.int (-1), .int 2], .tuple [.bool true], .tuple [.int 1], .tuple [.int (-1)], .tuple [.int 2], .tuple [.int 3], .tuple [.int 4], .tuple [.int 5]]
def oddL : List PyData := [.none, .bool true, .str "1", .int (-1), .list [.int 1], .list [.int 0]] ++ oddT ++ ((List.range 50).map fun n => PyData.int (n : Nat))
def wordL : List Str := ["votes", "need", "count", "lot"]
theorem odd_all : (oddL.all fun d => d.showable && decide (d.depth ≤ 10) && decide (d.shown.length ≤ sizeLine) && wordL.all fun w => SeqAt.shaped (.list [.str w, .str d.shown])) = true := by decide +kernel
theorem odd_ok {d : PyData} (h : d ∈ oddL) : Shw d ∧ ∀ w ∈ wordL, SeqAt.shaped (.list [.str w, .str d.shown]) = true := by
  have := List.all_eq_true.mp odd_all d h
  rw [Bool.and_eq_true, Bool.and_eq_true, Bool.and_eq_true] at this
  exact ⟨⟨this.1.1.1, of_decide_eq_true this.1.1.2, of_decide_eq_true this.1.2⟩, fun w hw => List.all_eq_true.mp this.2 w hw⟩
def OdV (H : Hp) (v : V) (e : PyData) : Prop := e ∈ oddL ∧ Rdv H v e
theorem OdV.same {H G : Hp} {v : V} {e : PyData} (h : OdV H v e) (s : Same H G) : OdV G v e := ⟨h.1, h.2.same s⟩
theorem OdV.fl {H : Hp} {v : V} {e : PyData} (m : e ∈ oddL) (f : Fl v e) : OdV H v e := ⟨m, true, 0, f.dv⟩
abbrev outL (w : Str) (d : PyData) : HO := .lst [.str w, .str d.shown]
structure Fo where
  n : Addr
  p : Addr
  v : Addr
  e : Addr
def Fo.is_ (c : Fo) (w : Str) (cls : Value) : Prop := (w = "count" ∧ cls = .ref c.n) ∨ (w = "lot" ∧ cls = .ref c.p) ∨ (w = "votes" ∧ cls = .ref c.v) ∨ (w = "need" ∧ cls = .ref c.e)
theorem Fo.word {c : Fo} {w : Str} {cls : Value} (h : c.is_ w cls) : w ∈ wordL := by
  rcases h with ⟨rfl, _⟩ | ⟨rfl, _⟩ | ⟨rfl, _⟩ | ⟨rfl, _⟩ <;> simp [wordL]
def TTr (c : Fo) : (XK → Hp → VK → Prop) → Hp → VK → Prop := fun tl H Q =>
  tl (fun cls d H' => ∃ (dd : Addr) (v : V) (e : PyData) (w : Str), c.is_ w cls ∧ d = some dd ∧ H' dd = some (.xd [("told", v)]) ∧ OdV H' v e ∧ ∀ p, H' p = none → Q (.ref p) (upd H' p (outL w e))) H fun _ H1 => Q .non H1
structure ErrS (K : PySem.W.Frag) (mg : Str → Option Value) (x : Str) (C : Addr) : Prop where
  gC : mg x = some (.ref C)
  xf : XfC K C
  no : PySem.W.findIn K (.ref C) "told" = some none
/-- what the clauses ask of the classes -/
structure Tri (K : PySem.W.Frag) (mg : Str → Option Value) (c : Fo) : Prop where
  n : ErrS K mg "NoCount" c.n
  p : ErrS K mg "NoLot" c.p
  v : ErrS K mg "NoVotes" c.v
  e : ErrS K mg "NoNeed" c.e
  nn : PySem.W.exmOne K (.ref c.n) (.ref c.n) = some true
  pn : PySem.W.exmOne K (.ref c.p) (.ref c.n) = some false
  vn : PySem.W.exmOne K (.ref c.v) (.ref c.n) = some false
  en : PySem.W.exmOne K (.ref c.e) (.ref c.n) = some false
  pp : PySem.W.exmOne K (.ref c.p) (.ref c.p) = some true
  vp : PySem.W.exmOne K (.ref c.v) (.ref c.p) = some false
  ep : PySem.W.exmOne K (.ref c.e) (.ref c.p) = some false
  vv : PySem.W.exmOne K (.ref c.v) (.ref c.v) = some true
  ev : PySem.W.exmOne K (.ref c.e) (.ref c.v) = some false
  ee : PySem.W.exmOne K (.ref c.e) (.ref c.e) = some true
  past : ∃ C, mg "NoPast" = some (.ref C) ∧ PySem.W.exmOne K (.ref c.p) (.ref C) = some false ∧ PySem.W.exmOne K (.ref c.v) (.ref C) = some false ∧ PySem.W.exmOne K (.ref c.e) (.ref C) = some false
  change : ∃ C, mg "NoChange" = some (.ref C) ∧ PySem.W.exmOne K (.ref c.v) (.ref C) = some false ∧ PySem.W.exmOne K (.ref c.e) (.ref C) = some false
  back : ∃ C, mg "NothingBack" = some (.ref C) ∧ PySem.W.exmOne K (.ref c.v) (.ref C) = some false ∧ PySem.W.exmOne K (.ref c.e) (.ref C) = some false
  copies : ∃ C, mg "NoCopies" = some (.ref C) ∧ PySem.W.exmOne K (.ref c.v) (.ref C) = some false ∧ PySem.W.exmOne K (.ref c.e) (.ref C) = some false
  chances : ∃ C : Addr, mg "NoChances" = some (.ref C)
  edit : ∃ C : Addr, mg "NoEdit" = some (.ref C)
  key : ∃ C : Addr, mg "NoKey" = some (.ref C)
  name : ∃ C : Addr, mg "NoName" = some (.ref C)
  moment : ∃ C : Addr, mg "NoMoment" = some (.ref C)
  many : ∃ C : Addr, mg "TooMany" = some (.ref C)
abbrev psT : List Str := ["_law_call", "e"]
theorem scTried : FnScope psT ["_law_call"] (defScope sCaught) := ⟨rfl, rfl, rfl, by decide +kernel, rfl, by decide +kernel, by decide +kernel⟩
/-- a clause that is never come to -/
theorem never {X : Cx} {n x : Str} {c : Value} {b1 : Stmt} {bs : List Stmt} {p1 p2 : Pos} {hs : List ExceptHandler} {l : List SuT} (names : Names X x c) (rest : Cls X n hs l) : Cls X n (.ExceptHandler (some (.Name x p1)) (some n) (b1 :: bs) p2 :: hs) ((c, fun _ _ _ _ _ _ => False) :: l) :=
  .cons names (fun _ _ _ _ _ _ _ => ⟨fun _ _ _ _ _ _ h => h.elim⟩) rest
theorem takes_len {X : Cx} {W : WX} (tk : Takes X W) : Takes X (fun cls d σ H => σ.length = X.N.length → W cls d σ H) := fun u s' ⟨a, B, sI, pins, σ, H, cls, d, e, I, nb, up, sky, na, os, ag, w⟩ => tk u s' ⟨a, B, sI, pins, σ, H, cls, d, e, I, nb, up, sky, na, os, ag, w I.len⟩
theorem pss_ex {X : Cx} {b : List Stmt} {ι : Type} {Pre : ι → Prop} {t : ι → Ends → L2.St → Hp → Prop} (h : ∀ i, Pre i → PSs X b (t i)) : PSs X b (fun D σ H => ∃ i, Pre i ∧ t i D σ H) := ⟨fun pins s σ H D I ⟨i, p, h'⟩ => (h i p).run pins s σ H D I h'⟩
theorem tried_gives {X : Cx} {c : Fo} {g : Addr} {cdg : Value} {q : Str} (hgd : X.A.guards = some []) (hun : X.A.units + 128 < cLine) (T : Cst X.mg) (S : Tri X.K X.mg c) : LamX.GivesTo X psT "_law_caught" (defScope sCaught) g cdg (defBody sCaught) "_law_call" q (TTr c) := by
  intro f c' s H Q tl act hc h
  have hu : (X.A.deeper (envOfC "_law_caught" (defScope sCaught) s.heap.objs.size g cdg)).units + 64 < cLine := by
    show X.A.units + 3 + 64 < cLine
    omega
  obtain ⟨_, g1, g1p, g1v, g1e⟩ := S.past
  obtain ⟨_, g2, g2v, g2e⟩ := S.change
  obtain ⟨_, g3, g3v, g3e⟩ := S.back
  obtain ⟨_, g4, g4v, g4e⟩ := S.copies
  obtain ⟨_, h1⟩ := S.chances
  obtain ⟨_, h2⟩ := S.edit
  obtain ⟨_, h3⟩ := S.key
  obtain ⟨_, h4⟩ := S.name
  obtain ⟨_, h5⟩ := S.moment
  obtain ⟨_, h6⟩ := S.many
  refine ⟨_, pss_cons (ps_try_all (X := (cxOf C8.CX0 X.prog X.w X.K X.mg X.base psT "_law_caught" (defScope sCaught) g cdg X.A X.stack s H C8.E0).nox) (i := 1) (n := "e")
      rfl rfl scTried.nd rfl rfl takes0 (fun W pn xe tk _ => pss_ex (Pre := fun Ech : XK => ∀ cls d σ' H', Ech cls d H' → (List.length σ' = 2) → W cls d σ' H') fun Ech hW => pss_one (ps_expr (act _ pn xe Ech _ _ (takes_len tk) hW)))
      (.cons (x := "NoCount") ⟨rfl, by decide, .inl S.n.gC⟩ (fun a oe cls d pn hz hf => pss_one (ps_ret (pe_lst (pa_cons pe_str (pa_cons (pe_callB (call_reprR hgd hu) (by rfl) T.rpr (by decide +kernel) (pa_cons (pe_xf S.n.xf S.n.no hz hf (pv 1)) pa_nil)) pa_nil)))))
      (never (x := "NoPast") ⟨rfl, by decide, .inl g1⟩
      (.cons (x := "NoLot") ⟨rfl, by decide, .inl S.p.gC⟩ (fun a oe cls d pn hz hf => pss_one (ps_ret (pe_lst (pa_cons pe_str (pa_cons (pe_callB (call_reprR hgd hu) (by rfl) T.rpr (by decide +kernel) (pa_cons (pe_xf S.p.xf S.p.no hz hf (pv 1)) pa_nil)) pa_nil)))))
      (never (x := "NoChange") ⟨rfl, by decide, .inl g2⟩
      (never (x := "NothingBack") ⟨rfl, by decide, .inl g3⟩
      (never (x := "NoCopies") ⟨rfl, by decide, .inl g4⟩
      (.cons (x := "NoVotes") ⟨rfl, by decide, .inl S.v.gC⟩ (fun a oe cls d pn hz hf => pss_one (ps_ret (pe_lst (pa_cons pe_str (pa_cons (pe_callB (call_reprR hgd hu) (by rfl) T.rpr (by decide +kernel) (pa_cons (pe_xf S.v.xf S.v.no hz hf (pv 1)) pa_nil)) pa_nil)))))
      (.cons (x := "NoNeed") ⟨rfl, by decide, .inl S.e.gC⟩ (fun a oe cls d pn hz hf => pss_one (ps_ret (pe_lst (pa_cons pe_str (pa_cons (pe_callB (call_reprR hgd hu) (by rfl) T.rpr (by decide +kernel) (pa_cons (pe_xf S.e.xf S.e.no hz hf (pv 1)) pa_nil)) pa_nil)))))
      (never (x := "NoChances") ⟨rfl, by decide, .inl h1⟩
      (never (x := "NoEdit") ⟨rfl, by decide, .inl h2⟩
      (never (x := "NoKey") ⟨rfl, by decide, .inl h3⟩
      (never (x := "NoName") ⟨rfl, by decide, .inl h4⟩
      (never (x := "NoMoment") ⟨rfl, by decide, .inl h5⟩
      (never (x := "TooMany") ⟨rfl, by decide, .inl h6⟩
      .nil)))))))))))))))
    (pss_one (ps_ret pe_non)), ?_⟩
  refine ⟨_, ?_, rfl, hc, h⟩
  rintro cls d σ' H' ⟨dd, v, e, w, hw, rfl, hd, ⟨me, dv⟩, q'⟩ hl
  match σ', hl with
  | [y1, y2], _ =>
  rcases hw with ⟨rfl, rfl⟩ | ⟨rfl, rfl⟩ | ⟨rfl, rfl⟩ | ⟨rfl, rfl⟩
  · exact ⟨true, S.nn, fun _ a ha => ⟨_, rfl, rfl, rfl, dd, _, v, rfl, hd, rfl, v, e, rfl, dv, (odd_ok me).1, by show 2 ≤ sizeLine; decide, fun l hl => q' l hl⟩, fun q => nomatch q⟩
  · exact ⟨false, S.pn, (fun q => nomatch q), fun _ => ⟨false, g1p, (fun q => nomatch q), fun _ => ⟨true, S.pp, fun _ a ha => ⟨_, rfl, rfl, rfl, dd, _, v, rfl, hd, rfl, v, e, rfl, dv, (odd_ok me).1, by show 2 ≤ sizeLine; decide, fun l hl => q' l hl⟩, fun q => nomatch q⟩⟩⟩
  · exact ⟨false, S.vn, (fun q => nomatch q), fun _ => ⟨false, g1v, (fun q => nomatch q), fun _ => ⟨false, S.vp, (fun q => nomatch q), fun _ => ⟨false, g2v, (fun q => nomatch q), fun _ => ⟨false, g3v, (fun q => nomatch q), fun _ => ⟨false, g4v, (fun q => nomatch q), fun _ => ⟨true, S.vv, fun _ a ha => ⟨_, rfl, rfl, rfl, dd, _, v, rfl, hd, rfl, v, e, rfl, dv, (odd_ok me).1, by show 2 ≤ sizeLine; decide, fun l hl => q' l hl⟩, fun q => nomatch q⟩⟩⟩⟩⟩⟩⟩
  · exact ⟨false, S.en, (fun q => nomatch q), fun _ => ⟨false, g1e, (fun q => nomatch q), fun _ => ⟨false, S.ep, (fun q => nomatch q), fun _ => ⟨false, g2e, (fun q => nomatch q), fun _ => ⟨false, g3e, (fun q => nomatch q), fun _ => ⟨false, g4e, (fun q => nomatch q), fun _ => ⟨false, S.ev, (fun q => nomatch q), fun _ => ⟨true, S.ee, fun _ a ha => ⟨_, rfl, rfl, rfl, dd, _, v, rfl, hd, rfl, v, e, rfl, dv, (odd_ok me).1, by show 2 ≤ sizeLine; decide, fun l hl => q' l hl⟩, fun q => nomatch q⟩⟩⟩⟩⟩⟩⟩⟩
theorem eqv_self {d : PyData} (h : SeqAt.shaped d = true) : PyData.eqv d d = true := by
  have h' : (d.canLay0 && decide (d.depth ≤ 64)) = true := h
  rw [Bool.and_eq_true] at h'
  exact SeqAt.eqv_refl d h'.1
theorem ne_lists {K : PySem.W.Frag} {G : Hp} {p p2 : Addr} {w : Str} {e : PyData} {Q : VK} (hw : w ∈ wordL) (me : e ∈ oddL) (hp : G p = some (outL w e)) (hp2 : G p2 = some (outL w e)) (q : Q (.bl false) G) : rNeD K (.ref p) (.ref p2) G Q := by
  have sh := (odd_ok me).2 w hw
  refine ⟨_, _, .lst (SqL.of hp) (.cons (.str _) (.cons (.str _) .nil)), .lst (SqL.of hp2) (.cons (.str _) (.cons (.str _) .nil)), sh, sh, ?_⟩
  rw [eqv_self sh]
  exact q
theorem eq_lists {K : PySem.W.Frag} {G : Hp} {p p2 : Addr} {w : Str} {e : PyData} {Q : VK} (hw : w ∈ wordL) (me : e ∈ oddL) (hp : G p = some (outL w e)) (hp2 : G p2 = some (outL w e)) (q : Q (.bl true) G) : rEqD K (.ref p) (.ref p2) G Q := by
  have sh := (odd_ok me).2 w hw
  refine ⟨_, _, .lst (SqL.of hp) (.cons (.str _) (.cons (.str _) .nil)), .lst (SqL.of hp2) (.cons (.str _) (.cons (.str _) .nil)), sh, sh, ?_⟩
  rw [eqv_self sh]
  exact q
theorem if_tried {K : PySem.W.Frag} {Tb : TbL} {c : Fo} {C : Addr} {t : XK → TE} {tR : TE} {v : V} {e : PyData} {w : Str} {σ : L2.St} {G : Hp} {D : Ends} (hw : c.is_ w (.ref C)) (hT : LamX.Tabs Tb G)
    (raise : ∀ (E : XK) (H1 : Hp) (Q' : VK), LamX.ExtN G H1 → Rais C v H1 E → t E σ H1 Q') (od : ∀ H1, LamX.ExtN G H1 → OdV H1 v e)
    (right : ∀ (H1 : Hp) (Q' : VK), LamX.ExtN G H1 → (∀ p2 G2, Same H1 G2 → G2 p2 = some (outL w e) → Q' (.ref p2) G2) → tR σ H1 Q')
    (next : ∀ G', LamX.ExtN G G' → LamX.Tabs Tb G' → D.nx σ G') : tIfS (tTest (tOp (rNeD K) (LamX.tLam Tb (TTr c) t) tR)) (tRet (tC (V.bl false))) tNext D σ G := by
  refine ⟨hT, fun H1 eN T1 => raise _ H1 _ eN fun dd H' s' hd => ⟨dd, v, e, w, hw, rfl, hd, (od H1 eN).same s', fun p hp => ?_⟩⟩
  refine right _ _ (eN.trans (LamX.ExtN.of (s'.trans (same_up hp)))) fun p2 G2 s2 h2 => ?_
  have sA := (s'.trans (same_up (o := outL w e) hp)).trans s2
  exact ne_lists (Fo.word hw) (od H1 eN).1 (s2 _ _ upd_same) h2 ⟨_, rfl, iteF (next G2 (eN.trans (LamX.ExtN.of sA)) (T1.ext sA))⟩
/-- [w, repr(the name in slot i)] -/
theorem due_read {w : Str} {i : Nat} {v : V} {e : PyData} {σ : L2.St} {H1 : Hp} {Q' : VK} (hv : σ[i]? = some (some v)) (od : OdV H1 v e) (q : ∀ p2 G2, Same H1 G2 → G2 p2 = some (outL w e) → Q' (.ref p2) G2) :
    tLst (tCons (tC (V.str w)) (tCons (tCB rReprR (tCons (tVar i) tNil)) tNil)) σ H1 Q' :=
  ⟨v, hv, v, e, rfl, od.2, (odd_ok od.1).1, by show 2 ≤ sizeLine; decide, fun p2 hp2 => q p2 _ (same_up hp2) upd_same⟩
end Pl

namespace Pl
open L2 PySem PySem.Spec PyProof.Rows RZ
theorem OdV.lst {H : Hp} {a : Addr} {vs : List V} {ds : List PyData} (m : PyData.list ds ∈ oddL) (h : H a = some (.lst vs)) (f : FlL vs ds) : OdV H (.ref a) (.list ds) := by
  refine ⟨m, false, a + 1, .lst rfl (Nat.ne_of_lt (Nat.lt_succ_self a)) h ?_⟩
  clear h m
  induction f with
  | nil => exact .nil
  | cons a _ ih => exact .cons a.dv ih
theorem OdV.tup {H : Hp} {a : Addr} {vs : List V} {ds : List PyData} (m : PyData.tuple ds ∈ oddL) (h : H a = some (.tup vs)) (f : FlL vs ds) : OdV H (.ref a) (.tuple ds) := by
  refine ⟨m, false, a + 1, .tup (Nat.ne_of_lt (Nat.lt_succ_self a)) (.any h) ?_⟩
  clear h m
  induction f with
  | nil => exact .nil
  | cons a _ ih => exact .cons a.dv ih
theorem within_hi {i lo hi : Int} (h : hi < i) : within (.int i) lo hi = false := by
  show (decide (lo ≤ i) && decide (i ≤ hi)) = false
  rw [decide_eq_false (by omega : ¬ i ≤ hi), Bool.and_false]
theorem within_lo {i lo hi : Int} (h : i < lo) : within (.int i) lo hi = false := by
  show (decide (lo ≤ i) && decide (i ≤ hi)) = false
  rw [decide_eq_false (by omega : ¬ lo ≤ i), Bool.false_and]
theorem odd_num {n : Nat} (b : n < 50) : PyData.int (n : Int) ∈ oddL := by
  unfold oddL
  exact List.mem_append_right _ (List.mem_map.mpr ⟨n, List.mem_range.mpr b, rfl⟩)
/-- an odd value: flat, a list of one, or a tuple -/
inductive Od (H : Hp) : V → PyData → Prop
  | fl {v : V} {d : PyData} (h : Fl v d) : Od H v d
  | lst {a : Addr} {vs : List V} {ds : List PyData} (h : H a = some (.lst vs)) (m : FlL vs ds) (l : vs.length = 1) : Od H (.ref a) (.list ds)
  | tup {a : Addr} {vs : List V} {ds : List PyData} (h : H a = some (.tup vs)) (m : FlL vs ds) (l : vs.length ≤ 100) : Od H (.ref a) (.tuple ds)
theorem Od.ext {H G : Hp} {v : V} {d : PyData} (h : Od H v d) (x : LamX.ExtN H G) : Od G v d := by
  cases h with
  | fl h => exact .fl h
  | lst h m l => exact .lst (ext_at x h) m l
  | tup h m l => exact .tup (ext_tp x h) m l
theorem Od.same {H G : Hp} {v : V} {d : PyData} (h : Od H v d) (x : Same H G) : Od G v d := h.ext (LamX.ExtN.of x)
theorem Od.but {z : Addr} {H G : Hp} {v : V} {d : PyData} (h : Od H v d) (s : Src z H) (b : But z H G) : Od G v d := by
  obtain ⟨x, y, hz, _⟩ := s
  cases h with
  | fl h => exact .fl h
  | lst h m l =>
    refine .lst (b _ _ (fun e => ?_) trivial h) m l
    rw [e, hz] at h
    have := HO.lst.inj (Option.some.inj h)
    rw [← this] at l
    cases l
  | tup h m l =>
    refine .tup (b _ _ (fun e => ?_) trivial h) m l
    rw [e, hz] at h
    cases h
theorem Od.odv {H : Hp} {v : V} {d : PyData} (h : Od H v d) (m : d ∈ oddL) : OdV H v d := by
  cases h with
  | fl h => exact .fl m h
  | lst h f l => exact .lst m h f
  | tup h f l => exact .tup m h f
def oT : PyData → Option (List PyData)
  | .tuple ds => some ds
  | _ => none
theorem Od.tz {K : PySem.W.Frag} {H : Hp} {v : V} {d : PyData} (h : Od H v d) : Tz K H v (oT d) := by
  cases h with
  | fl h =>
    cases h with
    | non => exact .no (fun _ _ => .base .non) (kit_ty (show kitB "NoneType" "tuple" = some false from by decide +kernel))
    | bl b => exact .no (fun _ _ => .base (.bl b)) (kit_ty (show kitB "bool" "tuple" = some false from by decide +kernel))
    | int i => exact .no (fun _ _ => .base (.int i)) (kit_ty (show kitB "int" "tuple" = some false from by decide +kernel))
    | str x => exact .no (fun _ _ => .base (.str x)) (kit_ty (show kitB "str" "tuple" = some false from by decide +kernel))
  | lst h m l => exact .no (fun G s => .base (.lst (s _ _ h))) (kit_ty (show kitB "list" "tuple" = some false from by decide +kernel))
  | tup h m l => exact .tup h m l
theorem Od.nv {H : Hp} {v : V} {d : PyData} (h : Od H v d) (n : ∀ ds, d ≠ .list ds) : Nv H v d := by
  cases h with
  | fl h => exact .fl h
  | lst h m l => exact absurd rfl (n _)
  | tup h m l => exact .tup h
inductive OdL (H : Hp) : List V → List PyData → Prop
  | nil : OdL H [] []
  | cons {v : V} {d : PyData} {vs : List V} {ds : List PyData} (a : Od H v d) (t : OdL H vs ds) : OdL H (v :: vs) (d :: ds)
theorem OdL.at : ∀ {H : Hp} {vs : List V} {ds : List PyData} {i : Nat} {v : V}, OdL H vs ds → vs[i]? = some v → ∃ d ∈ ds, Od H v d
  | _, _, _, _, _, .nil, e => absurd e (by simp)
  | _, _, _, 0, _, .cons a _, e => by
    simp at e
    subst e
    exact ⟨_, List.mem_cons_self, a⟩
  | _, _, _, i + 1, _, .cons _ t, e => by
    obtain ⟨d, h1, h2⟩ := OdL.at (i := i) t (by simpa using e)
    exact ⟨d, List.mem_cons_of_mem _ h1, h2⟩
section
variable {K : PySem.W.Frag} {CV CN CC CL va : Addr} {v : Z} {d : Int} {H : Hp} {E : XK} {G : Prop}
theorem tz_votes (ha : H va = some (.tup (v.map V.int))) (vk : Vok v) : Tz K H (.ref va) (some (v.map PyData.int)) := Tz.lot ha (by have := vk.len; omega)
theorem ckv_ok (ha : H va = some (.tup (v.map V.int))) (vk : Vok v) (d0 : 1 ≤ d) (d1 : d ≤ v.sum) (g : G) : CkV K CV CN (.ref va) (.int d) H E G :=
  ⟨_, tz_votes ha vk, (fun no => by
    rw [okV_of vk] at no
    cases no), fun _ => ⟨va, v, rfl, ha, .int d, .fl (.int d), (fun no => by
    rw [within_yes d0 d1] at no
    cases no), fun _ => g⟩⟩
theorem ckv_bad1 {x n : V} {e : PyData} (od : Od H x e) (no : okV (oT e) = false) (r : Rais CV x H E) : CkV K CV CN x n H E G :=
  ⟨_, od.tz, (fun _ => r), fun ok => by
    rw [no] at ok
    cases ok⟩
theorem ckv_bad2 {n : V} {e : PyData} (ha : H va = some (.tup (v.map V.int))) (vk : Vok v) (nv : Nv H n e) (no : within e 1 v.sum = false) (r : Rais CN n H E) : CkV K CV CN (.ref va) n H E G :=
  ⟨_, tz_votes ha vk, (fun no => by
    rw [okV_of vk] at no
    cases no), fun _ => ⟨va, v, rfl, ha, e, nv, (fun _ => r), fun ok => by
    rw [no] at ok
    cases ok⟩⟩
end
/-- two told beside each other -/
theorem ne_tried {K : PySem.W.Frag} {Tb : TbL} {c : Fo} {C : Addr} {t : XK → TE} {tR : TE} {v : V} {e : PyData} {w : Str} {σ : L2.St} {G : Hp} {Q : Bool → Hp → Prop} (hw : c.is_ w (.ref C)) (hT : LamX.Tabs Tb G)
    (raise : ∀ (E : XK) (H1 : Hp) (Q' : VK), LamX.ExtN G H1 → LamX.Tabs Tb H1 → Rais C v H1 E → t E σ H1 Q') (od : ∀ H1, LamX.ExtN G H1 → OdV H1 v e)
    (right : ∀ (H1 : Hp) (Q' : VK), LamX.ExtN G H1 → (∀ p2 G2, Same H1 G2 → G2 p2 = some (outL w e) → Q' (.ref p2) G2) → tR σ H1 Q')
    (next : ∀ G', LamX.ExtN G G' → LamX.Tabs Tb G' → Q false G') : tTest (tOp (rNeD K) (LamX.tLam Tb (TTr c) t) tR) σ G Q := by
  refine ⟨hT, fun H1 eN T1 => raise _ H1 _ eN T1 fun dd H' s' hd => ⟨dd, v, e, w, hw, rfl, hd, (od H1 eN).same s', fun p hp => ?_⟩⟩
  refine right _ _ (eN.trans (LamX.ExtN.of (s'.trans (same_up hp)))) fun p2 G2 s2 h2 => ?_
  have sA := (s'.trans (same_up (o := outL w e) hp)).trans s2
  exact ne_lists (Fo.word hw) (od H1 eN).1 (s2 _ _ upd_same) h2 ⟨_, rfl, next G2 (eN.trans (LamX.ExtN.of sA)) (T1.ext sA)⟩
theorem eq_tried {K : PySem.W.Frag} {Tb : TbL} {c : Fo} {C : Addr} {t : XK → TE} {tR : TE} {v : V} {e : PyData} {w : Str} {σ : L2.St} {G : Hp} {Q : VK} (hw : c.is_ w (.ref C)) (hT : LamX.Tabs Tb G)
    (raise : ∀ (E : XK) (H1 : Hp) (Q' : VK), LamX.ExtN G H1 → LamX.Tabs Tb H1 → Rais C v H1 E → t E σ H1 Q') (od : ∀ H1, LamX.ExtN G H1 → OdV H1 v e)
    (right : ∀ (H1 : Hp) (Q' : VK), LamX.ExtN G H1 → (∀ p2 G2, Same H1 G2 → G2 p2 = some (outL w e) → Q' (.ref p2) G2) → tR σ H1 Q')
    (next : ∀ G', LamX.ExtN G G' → LamX.Tabs Tb G' → Q (.bl true) G') : tOp (rEqD K) (LamX.tLam Tb (TTr c) t) tR σ G Q := by
  refine ⟨hT, fun H1 eN T1 => raise _ H1 _ eN T1 fun dd H' s' hd => ⟨dd, v, e, w, hw, rfl, hd, (od H1 eN).same s', fun p hp => ?_⟩⟩
  refine right _ _ (eN.trans (LamX.ExtN.of (s'.trans (same_up hp)))) fun p2 G2 s2 h2 => ?_
  have sA := (s'.trans (same_up (o := outL w e) hp)).trans s2
  exact eq_lists (Fo.word hw) (od H1 eN).1 (s2 _ _ upd_same) h2 (next G2 (eN.trans (LamX.ExtN.of sA)) (T1.ext sA))
/-- all but z and the tables stands -/
def ExtZ (z : Addr) (H G : Hp) : Prop := ∀ b o, b ≠ z → H b = some o → (∀ ps, o ≠ .tbl ps) → G b = some o
theorem ExtZ.trans {z : Addr} {H G F : Hp} (a : ExtZ z H G) (b : ExtZ z G F) : ExtZ z H F := fun c o n e t => b c o n (a c o n e t) t
theorem ExtZ.of {z : Addr} {H G : Hp} (a : LamX.ExtN H G) : ExtZ z H G := fun c o _ e t => a c o e t
theorem ExtZ.but {z : Addr} {H G : Hp} (a : But z H G) : ExtZ z H G := fun c o n e _ => a c o n trivial e
def spRef (Tb : TbL) : Sp := fun vs H Q _ => ∃ (z va : Addr) (v : Z) (d u : Int), vs = [.ref z, .int v.length, .ref va, .int d, .int u] ∧ Src z H ∧ H va = some (.tup (v.map V.int)) ∧ Vok v ∧ 1 ≤ d ∧ d ≤ v.sum ∧ 0 ≤ u ∧ u ≤ v.length ∧ LamX.Tabs Tb H ∧ ∀ G, ExtZ z H G → LamX.Tabs Tb G → Q (.bl true) G
abbrev psRf : List Str := ["_law_source", "_law_many", "_law_votes_here", "_law_need_here", "_law_unruly_here"]
abbrev nRf : List Str := ["_law_source", "_law_many", "_law_votes_here", "_law_need_here", "_law_unruly_here", "_law_odd", "_law_none", "_law_far", "_law_bad"]
section
variable {P : Program} {K : PySem.W.Frag} {w : World} {base : Heap} {mg : Str → Option Value} {c : Fo} {cd Pt : Addr} {Tb : TbL}
theorem scRf : FnScope nRf psRf (defScope sRefused) := ⟨rfl, rfl, rfl, by decide +kernel, rfl, by decide +kernel, by decide +kernel⟩
theorem ok_refuses {f gT : Addr} {fd fdT : FuncData} (F : FunC K "_law_refuses" "_law_refuses" sRefused f cd fd) (T : Cst mg) (S : Tri K mg c) (TB : LamX.TabB base mg cd Pt) (hmT : (Pt, lamR) ∈ Tb) (huT : ∀ p ∈ Tb, p.1 = Pt → p.2 = lamR) (FT : Fun K "_law_caught" "_law_caught" sCaught gT fdT) (mT : mg "_law_caught" = some (.ref gT)) (bT : Binds K fdT ["_law_call"] [])
    (DO : Df P w K mg base 2 "_law_one" ["_law_source", "_law_things"] spOne) (DI : Df P w K mg base 3 "is_votes" ["value"] (spIsV K)) (DW : DfX P w K mg base 5 "is_write_lot" ["votes", "need", "lot"] (spIsW K c.v c.e c.p)) (DE : DfX P w K mg base 6 "is_enough" psVNUL (spIsE K Tb c.v c.e c.n c.p)) (DS : DfX P w K mg base 6 "enough_lots" ["votes", "need", "unruly"] (spEs K Tb c.v c.e c.n)) : FnG P w K mg base 9 f fd psRf (spRef Tb) := by
  obtain ⟨oc, od, kV, doc, pm, an, cdv, ct, osl, rfl, lT, hcT⟩ := FT.ex
  have kT := FT.kp
  obtain ⟨gO, fdO, GO, mO, kO, bO⟩ := DO.ex
  obtain ⟨gI, fdI, GI, mI, kI, bI⟩ := DI.ex
  obtain ⟨gW, fdW, GW, mW, kW, bW⟩ := DW.ex
  obtain ⟨gE, fdE, GE, mE, kE, bE⟩ := DE.ex
  obtain ⟨gS, fdS, GS, mS, kS, bS⟩ := DS.ex
  refine okC F scRf (fun vs H Q E h => ?_) (fun A outer s H vs Q E hgd hr h => ?_)
  · obtain ⟨z, va, v, d, u, rfl, _⟩ := h
    rfl
  · obtain ⟨z, va, v, d, u, rfl, hz, hva, vk, d0, d1, u0, u1, hT, q⟩ := h
    have hu : (A.deeper (envOfC "_law_refuses" (defScope sRefused) ‹Shared›.heap.objs.size f (.ref cd))).units + 64 < cLine := by
      have := hr.un
      omega
    have hun : (A.deeper (envOfC "_law_refuses" (defScope sRefused) ‹Shared›.heap.objs.size f (.ref cd))).units + 128 < cLine := by
      have := hr.un
      omega
    refine ⟨_, pss_cons (ps_set (i := 5) scRf.nd rfl (Or.inr rfl) (pe_call GO (hr.mono (by decide)) (by rfl) mO kO bO .nil pass0 (pa_cons (pv 0) (pa_cons (pe_lst (pa_cons pe_non (pa_cons (pe_lst (pa_cons pe_int pa_nil)) (pa_cons (pe_tup pa_nil) (pa_cons (pe_tup (pa_cons pe_int (pa_cons pe_int pa_nil))) (pa_cons (pe_op (show OpR _ (binaryOp .Mult) (rRepT K) from op_repT) (pe_tup (pa_cons pe_int pa_nil)) pe_int) (pa_cons (pe_tup (pa_cons pe_int pa_nil)) (pa_cons (pe_tup (pa_cons (pe_un un_neg pe_int) (pa_cons pe_int pa_nil))) (pa_cons (pe_tup (pa_cons pe_bl pa_nil)) (pa_cons pe_str pa_nil)))))))))) pa_nil))))
      (pss_cons (ps_if (PW.pt (pw_or (pt_cmpR op_isnot_bl (pe_call GI (hr.mono (by decide)) (by rfl) mI kI bI .nil pass0 (pa_cons (pv 5) pa_nil)) pe_bl (nomark _)) (pw_or1 (pt_cmpR (op_neD hu) (LamX.pe_lamcall (x := "_law_caught") (a := "_law_call") (T := Tb) (TT := TTr c) (k := 6) (by rfl) mT kT lT hcT bT scTried rfl (Or.inl rfl) (tried_gives hgd hun T S) TB rfl hmT huT hr (show LamX.LamS (defScope sRefused) _ from LamX.lamS_by (by decide +kernel)) rfl (fun _ _ _ _ _ => rfl) (fun A outer s H E f c' hr2 => pe_call (E := E) GE (hr2.mono (by decide)) (by rfl) mE kE bE .nil (passes_call (takes_of rfl rfl rfl rfl) fun _ _ _ _ h => h) (pa_cons (pv 5) (pa_cons pe_non (pa_cons pe_non (pa_cons pe_non pa_nil)))))) (pe_lst (pa_cons pe_str (pa_cons (pe_callB (call_reprR hgd hu) (by rfl) T.rpr (by decide +kernel) (pa_cons (pv 5) pa_nil)) pa_nil))) (nomark _))))) (pss_one (ps_ret pe_bl)) pss_nil)
      (pss_cons (ps_set (i := 6) scRf.nd rfl (Or.inr rfl) (pe_call GO (hr.mono (by decide)) (by rfl) mO kO bO .nil pass0 (pa_cons (pv 0) (pa_cons (pe_lst (pa_cons pe_int (pa_cons (pe_op op_add (pe_callB (cr_sumT rfl) (by rfl) T.sum_ (by decide +kernel) (pa_cons (pv 2) pa_nil)) pe_int) (pa_cons pe_non (pa_cons pe_bl (pa_cons (pe_tup (pa_cons pe_int pa_nil)) pa_nil)))))) pa_nil))))
      (pss_cons (ps_if (pt_cmpR (op_neD hu) (LamX.pe_lamcall (x := "_law_caught") (a := "_law_call") (T := Tb) (TT := TTr c) (k := 6) (by rfl) mT kT lT hcT bT scTried rfl (Or.inl rfl) (tried_gives hgd hun T S) TB rfl hmT huT hr (show LamX.LamS (defScope sRefused) _ from LamX.lamS_by (by decide +kernel)) rfl (fun _ _ _ _ _ => rfl) (fun A outer s H E f c' hr2 => pe_call (E := E) GS (hr2.mono (by decide)) (by rfl) mS kS bS .nil (passes_call (takes_of rfl rfl rfl rfl) fun _ _ _ _ h => h) (pa_cons (pv 2) (pa_cons (pv 6) (pa_cons pe_non pa_nil))))) (pe_lst (pa_cons pe_str (pa_cons (pe_callB (call_reprR hgd hu) (by rfl) T.rpr (by decide +kernel) (pa_cons (pv 6) pa_nil)) pa_nil))) (nomark _)) (pss_one (ps_ret pe_bl)) pss_nil)
      (pss_cons (ps_set (i := 7) scRf.nd rfl (Or.inr rfl) (pe_call GO (hr.mono (by decide)) (by rfl) mO kO bO .nil pass0 (pa_cons (pv 0) (pa_cons (pe_lst (pa_cons (pe_un un_neg pe_int) (pa_cons (pe_op op_add (pv 1) pe_int) (pa_cons pe_non (pa_cons pe_bl pa_nil))))) pa_nil))))
      (pss_cons (ps_if (pt_cmpR (op_neD hu) (LamX.pe_lamcall (x := "_law_caught") (a := "_law_call") (T := Tb) (TT := TTr c) (k := 6) (by rfl) mT kT lT hcT bT scTried rfl (Or.inl rfl) (tried_gives hgd hun T S) TB rfl hmT huT hr (show LamX.LamS (defScope sRefused) _ from LamX.lamS_by (by decide +kernel)) rfl (fun _ _ _ _ _ => rfl) (fun A outer s H E f c' hr2 => pe_call (E := E) GE (hr2.mono (by decide)) (by rfl) mE kE bE .nil (passes_call (takes_of rfl rfl rfl rfl) fun _ _ _ _ h => h) (pa_cons (pv 2) (pa_cons (pv 3) (pa_cons (pv 7) (pa_cons pe_non pa_nil)))))) (pe_lst (pa_cons pe_str (pa_cons (pe_callB (call_reprR hgd hu) (by rfl) T.rpr (by decide +kernel) (pa_cons (pv 7) pa_nil)) pa_nil))) (nomark _)) (pss_one (ps_ret pe_bl)) pss_nil)
      (pss_cons (ps_set (i := 8) scRf.nd rfl (Or.inr rfl) (pe_call GO (hr.mono (by decide)) (by rfl) mO kO bO .nil pass0 (pa_cons (pv 0) (pa_cons (pe_lst (pa_cons pe_non (pa_cons (pe_lst (pa_cons pe_int pa_nil)) (pa_cons (pe_tup (pa_cons (pv 1) pa_nil)) (pa_cons (pe_tup (pa_cons (pe_un un_neg pe_int) pa_nil)) (pa_cons (pe_tup (pa_cons pe_int (pa_cons pe_int pa_nil))) (pa_cons (pe_tup (pa_cons pe_bl pa_nil)) pa_nil))))))) pa_nil))))
      (pss_cons (ps_if (pt_cmpR (op_neD hu) (LamX.pe_lamcall (x := "_law_caught") (a := "_law_call") (T := Tb) (TT := TTr c) (k := 6) (by rfl) mT kT lT hcT bT scTried rfl (Or.inl rfl) (tried_gives hgd hun T S) TB rfl hmT huT hr (show LamX.LamS (defScope sRefused) _ from LamX.lamS_by (by decide +kernel)) rfl (fun _ _ _ _ _ => rfl) (fun A outer s H E f c' hr2 => pe_call (E := E) GW (hr2.mono (by decide)) (by rfl) mW kW bW .nil (passes_call (takes_of rfl rfl rfl rfl) fun _ _ _ _ h => h) (pa_cons (pv 2) (pa_cons (pv 3) (pa_cons (pv 8) pa_nil))))) (pe_lst (pa_cons pe_str (pa_cons (pe_callB (call_reprR hgd hu) (by rfl) T.rpr (by decide +kernel) (pa_cons (pv 8) pa_nil)) pa_nil))) (nomark _)) (pss_one (ps_ret pe_bl)) pss_nil)
      (pss_one (ps_ret (pe_cmpR (op_eqD hu) (LamX.pe_lamcall (x := "_law_caught") (a := "_law_call") (T := Tb) (TT := TTr c) (k := 6) (by rfl) mT kT lT hcT bT scTried rfl (Or.inl rfl) (tried_gives hgd hun T S) TB rfl hmT huT hr (show LamX.LamS (defScope sRefused) _ from LamX.lamS_by (by decide +kernel)) rfl (fun _ _ _ _ _ => rfl) (fun A outer s H E f c' hr2 => pe_call (E := E) GE (hr2.mono (by decide)) (by rfl) mE kE bE .nil (passes_call (takes_of rfl rfl rfl rfl) fun _ _ _ _ h => h) (pa_cons (pv 2) (pa_cons (pv 3) (pa_cons (pv 4) (pa_cons (pv 8) pa_nil)))))) (pe_lst (pa_cons pe_str (pa_cons (pe_callB (call_reprR hgd hu) (by rfl) T.rpr (by decide +kernel) (pa_cons (pv 8) pa_nil)) pa_nil))) (nomark _))))))))))), ?_⟩
    refine ⟨_, rfl, by show 1 ≤ sizeLine; decide, fun al1 hal1 => ?_⟩
    generalize haA1 : upd _ al1 _ = aA1
    have as1 : Same H aA1 := by rw [← haA1]; exact same_up hal1
    have af1 : aA1 al1 = some (.lst [.int 1]) := by rw [← haA1]; exact upd_same
    refine ⟨by show 0 ≤ sizeLine; decide, fun al2 hal2 => ?_⟩
    generalize haA2 : upd _ al2 _ = aA2
    have as2 : Same aA1 aA2 := by rw [← haA2]; exact same_up hal2
    have af2 : aA2 al2 = some (.tup []) := by rw [← haA2]; exact upd_same
    refine ⟨by show 2 ≤ sizeLine; decide, fun al3 hal3 => ?_⟩
    generalize haA3 : upd _ al3 _ = aA3
    have as3 : Same aA2 aA3 := by rw [← haA3]; exact same_up hal3
    have af3 : aA3 al3 = some (.tup [.int 0, .int 0]) := by rw [← haA3]; exact upd_same
    refine ⟨by show 1 ≤ sizeLine; decide, fun al4 hal4 => ?_⟩
    generalize haA4 : upd _ al4 _ = aA4
    have as4 : Same aA3 aA4 := by rw [← haA4]; exact same_up hal4
    have af4 : aA4 al4 = some (.tup [.int 1]) := by rw [← haA4]; exact upd_same
    refine ⟨al4, 6, [.int 1], rfl, rfl, SqT.of af4, by simp, by decide, by decide, by decide, fun al5 hal5 => ?_⟩
    generalize haA5 : upd _ al5 _ = aA5
    have as5 : Same aA4 aA5 := by rw [← haA5]; exact same_up hal5
    have af5 : aA5 al5 = some (.tup [.int 1, .int 1, .int 1, .int 1, .int 1, .int 1]) := by rw [← haA5]; exact upd_same
    refine ⟨by show 1 ≤ sizeLine; decide, fun al6 hal6 => ?_⟩
    generalize haA6 : upd _ al6 _ = aA6
    have as6 : Same aA5 aA6 := by rw [← haA6]; exact same_up hal6
    have af6 : aA6 al6 = some (.tup [.int 10]) := by rw [← haA6]; exact upd_same
    refine ⟨1, rfl, by show 2 ≤ sizeLine; decide, fun al7 hal7 => ?_⟩
    generalize haA7 : upd _ al7 _ = aA7
    have as7 : Same aA6 aA7 := by rw [← haA7]; exact same_up hal7
    have af7 : aA7 al7 = some (.tup [.int (-1), .int 2]) := by rw [← haA7]; exact upd_same
    refine ⟨by show 1 ≤ sizeLine; decide, fun al8 hal8 => ?_⟩
    generalize haA8 : upd _ al8 _ = aA8
    have as8 : Same aA7 aA8 := by rw [← haA8]; exact same_up hal8
    have af8 : aA8 al8 = some (.tup [.bl true]) := by rw [← haA8]; exact upd_same
    refine ⟨by show 9 ≤ sizeLine; decide, fun al9 hal9 => ?_⟩
    have apz := (hz.same (((((((as1.trans as2).trans as3).trans as4).trans as5).trans as6).trans as7).trans as8)).ne hal9
    generalize haA9 : upd _ al9 _ = aA9
    have as9 : Same aA8 aA9 := by rw [← haA9]; exact same_up hal9
    have af9 : aA9 al9 = some (.lst [.non, .ref al1, .ref al2, .ref al3, .ref al5, .ref al6, .ref al7, .ref al8, .str "1"]) := by rw [← haA9]; exact upd_same
    have af1z : aA9 al1 = some (.lst [.int 1]) := as9 _ _ (as8 _ _ (as7 _ _ (as6 _ _ (as5 _ _ (as4 _ _ (as3 _ _ (as2 _ _ af1)))))))
    have af2z : aA9 al2 = some (.tup []) := as9 _ _ (as8 _ _ (as7 _ _ (as6 _ _ (as5 _ _ (as4 _ _ (as3 _ _ af2))))))
    have af3z : aA9 al3 = some (.tup [.int 0, .int 0]) := as9 _ _ (as8 _ _ (as7 _ _ (as6 _ _ (as5 _ _ (as4 _ _ af3)))))
    have af4z : aA9 al4 = some (.tup [.int 1]) := as9 _ _ (as8 _ _ (as7 _ _ (as6 _ _ (as5 _ _ af4))))
    have af5z : aA9 al5 = some (.tup [.int 1, .int 1, .int 1, .int 1, .int 1, .int 1]) := as9 _ _ (as8 _ _ (as7 _ _ (as6 _ _ af5)))
    have af6z : aA9 al6 = some (.tup [.int 10]) := as9 _ _ (as8 _ _ (as7 _ _ af6))
    have af7z : aA9 al7 = some (.tup [.int (-1), .int 2]) := as9 _ _ (as8 _ _ af7)
    have af8z : aA9 al8 = some (.tup [.bl true]) := as9 _ _ af8
    have aS : Same H aA9 := ((((((((as1.trans as2).trans as3).trans as4).trans as5).trans as6).trans as7).trans as8).trans as9)
    have odl1 : OdL aA9 [.non, .ref al1, .ref al2, .ref al3, .ref al5, .ref al6, .ref al7, .ref al8, .str "1"] [.none, .list [.int 1], .tuple [], .tuple [.int 0, .int 0], .tuple [.int 1, .int 1, .int 1, .int 1, .int 1, .int 1], .tuple [.int 10], .tuple [.int (-1), .int 2], .tuple [.bool true], .str "1"] :=
      .cons (.fl .non) (.cons (.lst af1z (.cons (.int _) .nil) rfl) (.cons (.tup af2z .nil (by decide)) (.cons (.tup af3z (.cons (.int _) (.cons (.int _) .nil)) (by show 2 ≤ 100; decide)) (.cons (.tup af5z (.cons (.int _) (.cons (.int _) (.cons (.int _) (.cons (.int _) (.cons (.int _) (.cons (.int _) .nil)))))) (by show 6 ≤ 100; decide)) (.cons (.tup af6z (.cons (.int _) .nil) (by show 1 ≤ 100; decide)) (.cons (.tup af7z (.cons (.int _) (.cons (.int _) .nil)) (by show 2 ≤ 100; decide)) (.cons (.tup af8z (.cons (.bl _) .nil) (by show 1 ≤ 100; decide)) (.cons (.fl (.str _)) .nil))))))))
    refine ⟨z, al9, _, rfl, hz.same aS, af9, apz, by show 0 < 9; decide, by show 9 ≤ 100; decide, fun i x1 G1 hx1 b1 z1 => ?_⟩
    obtain ⟨e1, he1, od1⟩ := odl1.at hx1
    have pr1 : e1 ∈ oddL ∧ okV (oT e1) = false := by
      simp only [List.mem_cons, List.not_mem_nil, or_false] at he1
      rcases he1 with rfl | rfl | rfl | rfl | rfl | rfl | rfl | rfl | rfl <;> exact ⟨by simp [oddL, oddT], by decide +kernel⟩
    obtain ⟨m1, no1⟩ := pr1
    have od1 := od1.but (hz.same aS) b1
    have hva1 := tup_z (aS _ _ hva) (hz.same aS) b1
    have t1 := tabs_but b1 (hz.same aS) (hT.ext aS)
    have x1e := (ExtZ.of (z := z) (LamX.ExtN.of aS)).trans (ExtZ.but b1)
    clear odl1
    refine ⟨_, rfl, x1, oT e1, rfl, od1.tz, fun G2 s2 => ?_⟩
    rw [no1]
    refine ⟨false, false, rfl, rfl, _, rfl, ?_⟩
    rw [show (!decide (false = false)) = false from by decide]
    refine iteF ?_
    refine ne_tried (K := K) (w := "votes") (C := c.v) (e := e1) (v := x1) (.inr (.inr (.inl ⟨rfl, rfl⟩))) (t1.ext s2) (fun E H1 Q' x T1 r => ⟨x1, rfl, x1, .non, .non, .non, rfl, ckv_bad1 ((od1.same s2).ext x) no1 r⟩) (fun H1 x => ((od1.same s2).ext x).odv m1) (fun H1 Q' x q' => due_read rfl (((od1.same s2).ext x).odv m1) q') fun G3 e3 t3 => iteF ?_
    have z3 := (z1.same s2).ext e3
    have hva3 := ext_tp e3 (s2 _ _ hva1)
    have x3e := (x1e.trans (ExtZ.of (LamX.ExtN.of s2))).trans (ExtZ.of e3)
    clear z1 hva1 x1e od1 t1
    refine ⟨_, rfl, _, rfl, va, v, rfl, SqT.of hva3, v.sum, 1, rfl, rfl, by show 1 ≤ sizeLine; decide, fun bl1 hbl1 => ?_⟩
    generalize hbA1 : upd _ bl1 _ = bA1
    have bs1 : Same G3 bA1 := by rw [← hbA1]; exact same_up hbl1
    have bf1 : bA1 bl1 = some (.tup [.int 1]) := by rw [← hbA1]; exact upd_same
    refine ⟨by show 5 ≤ sizeLine; decide, fun bl2 hbl2 => ?_⟩
    have bpz := (z3.same bs1).ne hbl2
    generalize hbA2 : upd _ bl2 _ = bA2
    have bs2 : Same bA1 bA2 := by rw [← hbA2]; exact same_up hbl2
    have bf2 : bA2 bl2 = some (.lst [.int 0, .int (v.sum + 1), .non, .bl true, .ref bl1]) := by rw [← hbA2]; exact upd_same
    have bf1z : bA2 bl1 = some (.tup [.int 1]) := bs2 _ _ bf1
    have bS : Same G3 bA2 := (bs1.trans bs2)
    obtain ⟨sm, hsm⟩ : ∃ sm : Nat, v.sum = sm := ⟨v.sum.toNat, by have := vk.pos; omega⟩
    have s45 := vk.sum9
    have odl2 : OdL bA2 [.int 0, .int (v.sum + 1), .non, .bl true, .ref bl1] [.int 0, .int (v.sum + 1), .none, .bool true, .tuple [.int 1]] :=
      .cons (.fl (.int _)) (.cons (.fl (.int _)) (.cons (.fl .non) (.cons (.fl (.bl _)) (.cons (.tup bf1z (.cons (.int _) .nil) (by show 1 ≤ 100; decide)) .nil))))
    refine ⟨z, bl2, _, rfl, z3.same bS, bf2, bpz, by show 0 < 5; decide, by show 5 ≤ 100; decide, fun i x4 G4 hx4 b4 z4 => ?_⟩
    obtain ⟨e4, he4, od4⟩ := odl2.at hx4
    have pr4 : e4 ∈ oddL ∧ within e4 1 v.sum = false ∧ ∀ ds, e4 ≠ .list ds := by
      simp only [List.mem_cons, List.not_mem_nil, or_false] at he4
      rcases he4 with rfl | rfl | rfl | rfl | rfl
      · exact ⟨odd_num (n := 0) (by decide), within_lo (by decide), fun _ q => by cases q⟩
      · refine ⟨?_, within_hi (by omega), fun _ q => by cases q⟩
        have := odd_num (n := sm + 1) (by omega)
        rw [hsm]
        exact this
      · exact ⟨by simp [oddL], rfl, fun _ q => by cases q⟩
      · exact ⟨by simp [oddL], rfl, fun _ q => by cases q⟩
      · exact ⟨by simp [oddL, oddT], rfl, fun _ q => by cases q⟩
    obtain ⟨m4, no4, nl4⟩ := pr4
    have od4 := od4.but (z3.same bS) b4
    have hva4 := tup_z (bS _ _ hva3) (z3.same bS) b4
    have t4 := tabs_but b4 (z3.same bS) (t3.ext bS)
    have x4e := (x3e.trans (ExtZ.of (LamX.ExtN.of bS))).trans (ExtZ.but b4)
    clear odl2
    refine ne_tried (K := K) (w := "need") (C := c.e) (e := e4) (v := x4) (.inr (.inr (.inr ⟨rfl, rfl⟩))) t4 (fun E H1 Q' x T1 r => ⟨_, rfl, x4, rfl, .ref va, x4, .non, rfl, ckv_bad2 (ext_tp x hva4) vk ((od4.ext x).nv nl4) no4 r⟩) (fun H1 x => (od4.ext x).odv m4) (fun H1 Q' x q' => due_read rfl ((od4.ext x).odv m4) q') fun G5 e5 t5 => iteF ?_
    have z5 := z4.ext e5
    have hva5 := ext_tp e5 hva4
    have x5e := x4e.trans (ExtZ.of e5)
    clear z4 hva4 x4e od4 t4
    refine ⟨_, rfl, 1, rfl, _, rfl, v.length, 1, rfl, rfl, by show 4 ≤ sizeLine; decide, fun dl1 hdl1 => ?_⟩
    have dpz := (z5.same (fun _ _ e => e)).ne hdl1
    generalize hdA1 : upd _ dl1 _ = dA1
    have ds1 : Same G5 dA1 := by rw [← hdA1]; exact same_up hdl1
    have df1 : dA1 dl1 = some (.lst [.int (-1), .int ((v.length : Int) + 1), .non, .bl true]) := by rw [← hdA1]; exact upd_same
    have dS : Same G5 dA1 := ds1
    have odl3 : OdL dA1 [.int (-1), .int ((v.length : Int) + 1), .non, .bl true] [.int (-1), .int ((v.length : Int) + 1), .none, .bool true] :=
      .cons (.fl (.int _)) (.cons (.fl (.int _)) (.cons (.fl .non) (.cons (.fl (.bl _)) .nil)))
    refine ⟨z, dl1, _, rfl, z5.same dS, df1, dpz, by show 0 < 4; decide, by show 4 ≤ 100; decide, fun i x6 G6 hx6 b6 z6 => ?_⟩
    obtain ⟨e6, he6, od6⟩ := odl3.at hx6
    have l5 := vk.len
    have pr6 : e6 ∈ oddL ∧ within e6 0 v.length = false ∧ ∀ ds, e6 ≠ .list ds := by
      simp only [List.mem_cons, List.not_mem_nil, or_false] at he6
      rcases he6 with rfl | rfl | rfl | rfl
      · exact ⟨by simp [oddL], within_lo (by decide), fun _ q => by cases q⟩
      · exact ⟨odd_num (n := v.length + 1) (by omega), within_hi (by omega), fun _ q => by cases q⟩
      · exact ⟨by simp [oddL], rfl, fun _ q => by cases q⟩
      · exact ⟨by simp [oddL], rfl, fun _ q => by cases q⟩
    obtain ⟨m6, no6, nl6⟩ := pr6
    have od6 := od6.but (z5.same dS) b6
    have hva6 := tup_z (dS _ _ hva5) (z5.same dS) b6
    have t6 := tabs_but b6 (z5.same dS) (t5.ext dS)
    have x6e := (x5e.trans (ExtZ.of (LamX.ExtN.of dS))).trans (ExtZ.but b6)
    clear odl3
    refine ne_tried (K := K) (w := "count") (C := c.n) (e := e6) (v := x6) (.inl ⟨rfl, rfl⟩) t6 (fun E H1 Q' x T1 r => ⟨_, rfl, _, rfl, x6, rfl, .ref va, .int d, x6, .non, rfl, ckv_ok (ext_tp x hva6) vk d0 d1 ⟨v, ⟨va, rfl, ext_tp x hva6, vk⟩, e6, (od6.ext x).nv nl6, (fun _ => r), fun ok => by
      rw [no6] at ok
      cases ok⟩⟩) (fun H1 x => (od6.ext x).odv m6) (fun H1 Q' x q' => due_read rfl ((od6.ext x).odv m6) q') fun G7 e7 t7 => iteF ?_
    have z7 := z6.ext e7
    have hva7 := ext_tp e7 hva6
    have x7e := x6e.trans (ExtZ.of e7)
    clear z6 hva6 x6e od6 t6
    refine ⟨_, rfl, by show 1 ≤ sizeLine; decide, fun gl1 hgl1 => ?_⟩
    generalize hgA1 : upd _ gl1 _ = gA1
    have gs1 : Same G7 gA1 := by rw [← hgA1]; exact same_up hgl1
    have gf1 : gA1 gl1 = some (.lst [.int 0]) := by rw [← hgA1]; exact upd_same
    refine ⟨_, rfl, by show 1 ≤ sizeLine; decide, fun gl2 hgl2 => ?_⟩
    generalize hgA2 : upd _ gl2 _ = gA2
    have gs2 : Same gA1 gA2 := by rw [← hgA2]; exact same_up hgl2
    have gf2 : gA2 gl2 = some (.tup [.int v.length]) := by rw [← hgA2]; exact upd_same
    refine ⟨1, rfl, by show 1 ≤ sizeLine; decide, fun gl3 hgl3 => ?_⟩
    generalize hgA3 : upd _ gl3 _ = gA3
    have gs3 : Same gA2 gA3 := by rw [← hgA3]; exact same_up hgl3
    have gf3 : gA3 gl3 = some (.tup [.int (-1)]) := by rw [← hgA3]; exact upd_same
    refine ⟨by show 2 ≤ sizeLine; decide, fun gl4 hgl4 => ?_⟩
    generalize hgA4 : upd _ gl4 _ = gA4
    have gs4 : Same gA3 gA4 := by rw [← hgA4]; exact same_up hgl4
    have gf4 : gA4 gl4 = some (.tup [.int 0, .int 0]) := by rw [← hgA4]; exact upd_same
    refine ⟨by show 1 ≤ sizeLine; decide, fun gl5 hgl5 => ?_⟩
    generalize hgA5 : upd _ gl5 _ = gA5
    have gs5 : Same gA4 gA5 := by rw [← hgA5]; exact same_up hgl5
    have gf5 : gA5 gl5 = some (.tup [.bl true]) := by rw [← hgA5]; exact upd_same
    refine ⟨by show 6 ≤ sizeLine; decide, fun gl6 hgl6 => ?_⟩
    have gpz := (z7.same ((((gs1.trans gs2).trans gs3).trans gs4).trans gs5)).ne hgl6
    generalize hgA6 : upd _ gl6 _ = gA6
    have gs6 : Same gA5 gA6 := by rw [← hgA6]; exact same_up hgl6
    have gf6 : gA6 gl6 = some (.lst [.non, .ref gl1, .ref gl2, .ref gl3, .ref gl4, .ref gl5]) := by rw [← hgA6]; exact upd_same
    have gf1z : gA6 gl1 = some (.lst [.int 0]) := gs6 _ _ (gs5 _ _ (gs4 _ _ (gs3 _ _ (gs2 _ _ gf1))))
    have gf2z : gA6 gl2 = some (.tup [.int v.length]) := gs6 _ _ (gs5 _ _ (gs4 _ _ (gs3 _ _ gf2)))
    have gf3z : gA6 gl3 = some (.tup [.int (-1)]) := gs6 _ _ (gs5 _ _ (gs4 _ _ gf3))
    have gf4z : gA6 gl4 = some (.tup [.int 0, .int 0]) := gs6 _ _ (gs5 _ _ gf4)
    have gf5z : gA6 gl5 = some (.tup [.bl true]) := gs6 _ _ gf5
    have gS : Same G7 gA6 := (((((gs1.trans gs2).trans gs3).trans gs4).trans gs5).trans gs6)
    have odl4 : OdL gA6 [.non, .ref gl1, .ref gl2, .ref gl3, .ref gl4, .ref gl5] [.none, .list [.int 0], .tuple [.int v.length], .tuple [.int (-1)], .tuple [.int 0, .int 0], .tuple [.bool true]] :=
      .cons (.fl .non) (.cons (.lst gf1z (.cons (.int _) .nil) rfl) (.cons (.tup gf2z (.cons (.int _) .nil) (by show 1 ≤ 100; decide)) (.cons (.tup gf3z (.cons (.int _) .nil) (by show 1 ≤ 100; decide)) (.cons (.tup gf4z (.cons (.int _) (.cons (.int _) .nil)) (by show 2 ≤ 100; decide)) (.cons (.tup gf5z (.cons (.bl _) .nil) (by show 1 ≤ 100; decide)) .nil)))))
    refine ⟨z, gl6, _, rfl, z7.same gS, gf6, gpz, by show 0 < 6; decide, by show 6 ≤ 100; decide, fun i x8 G8 hx8 b8 z8 => ?_⟩
    obtain ⟨e8, he8, od8⟩ := odl4.at hx8
    have l1 := vk.one
    have pr8 : e8 ∈ oddL ∧ okT v.length (oT e8) = false := by
      simp only [List.mem_cons, List.not_mem_nil, or_false] at he8
      rcases he8 with rfl | rfl | rfl | rfl | rfl | rfl
      · exact ⟨by simp [oddL], rfl⟩
      · exact ⟨by simp [oddL], rfl⟩
      · refine ⟨?_, ?_⟩
        · have : v.length = 1 ∨ v.length = 2 ∨ v.length = 3 ∨ v.length = 4 ∨ v.length = 5 := by omega
          rcases this with h | h | h | h | h <;> rw [h] <;> simp [oddL, oddT]
        · show (([PyData.int v.length].all fun d => within d 0 ((v.length : Int) - 1)) && asc ([PyData.int v.length].map toI)) = false
          rw [List.all_cons, within_hi (by omega), Bool.false_and, Bool.false_and]
      · refine ⟨by simp [oddL, oddT], ?_⟩
        show (([PyData.int (-1)].all fun d => within d 0 ((v.length : Int) - 1)) && asc ([PyData.int (-1)].map toI)) = false
        rw [List.all_cons, within_lo (by decide), Bool.false_and, Bool.false_and]
      · refine ⟨by simp [oddL, oddT], ?_⟩
        show (([PyData.int 0, PyData.int 0].all fun d => within d 0 ((v.length : Int) - 1)) && asc [0, 0]) = false
        rw [show asc [0, 0] = false from by decide +kernel, Bool.and_false]
      · refine ⟨by simp [oddL, oddT], ?_⟩
        show (([PyData.bool true].all fun d => within d 0 ((v.length : Int) - 1)) && asc ([PyData.bool true].map toI)) = false
        rfl
    obtain ⟨m8, no8⟩ := pr8
    have od8 := od8.but (z7.same gS) b8
    have hva8 := tup_z (gS _ _ hva7) (z7.same gS) b8
    have t8 := tabs_but b8 (z7.same gS) (t7.ext gS)
    have x8e := (x7e.trans (ExtZ.of (LamX.ExtN.of gS))).trans (ExtZ.but b8)
    clear odl4
    refine ne_tried (K := K) (w := "lot") (C := c.p) (e := e8) (v := x8) (.inr (.inl ⟨rfl, rfl⟩)) t8 (fun E H1 Q' x T1 r => ⟨_, rfl, _, rfl, x8, rfl, .ref va, .int d, x8, rfl, ckv_ok (ext_tp x hva8) vk d0 d1 ⟨v, ⟨va, rfl, ext_tp x hva8, vk⟩, oT e8, (od8.ext x).tz, (fun _ => r), fun ok => by
      rw [no8] at ok
      cases ok⟩⟩) (fun H1 x => (od8.ext x).odv m8) (fun H1 Q' x q' => due_read rfl ((od8.ext x).odv m8) q') fun G9 e9 t9 => iteF ?_
    refine eq_tried (K := K) (w := "lot") (C := c.p) (e := e8) (v := x8) (.inr (.inl ⟨rfl, rfl⟩)) t9 (fun E H1 Q' x T1 r => ⟨_, rfl, _, rfl, _, rfl, x8, rfl, .ref va, .int d, .int u, x8, rfl, ckv_ok (ext_tp (e9.trans x) hva8) vk d0 d1 ⟨v, ⟨va, rfl, ext_tp (e9.trans x) hva8, vk⟩, .int u, .fl (.int u), (fun no => by
      rw [within_yes u0 u1] at no
      cases no), fun _ => ⟨oT e8, (od8.ext (e9.trans x)).tz, (fun _ => r), fun ok => by
      rw [no8] at ok
      cases ok⟩⟩⟩) (fun H1 x => (od8.ext (e9.trans x)).odv m8) (fun H1 Q' x q' => due_read rfl ((od8.ext (e9.trans x)).odv m8) q') fun G10 e10 t10 => ?_
    exact q G10 (x8e.trans (ExtZ.of (e9.trans e10))) t10
end
end Pl

namespace Pl
open L2 PySem PySem.Spec PyProof.Rows RZ
structure DfG (P : Program) (w : World) (K : PySem.W.Frag) (mg : Str → Option Value) (base : Heap) (k : Nat) (x : Str) (ps : List Str) (sp : Sp) : Prop where
  ex : ∃ (f : Addr) (fd : FuncData), FnG P w K mg base k f fd ps sp ∧ mg x = some (.ref f) ∧ PySem.W.keepIn K (.ref f) = true ∧ Binds K fd ps []
def spLaw (K : PySem.W.Frag) (Tb : TbL) : Sp := fun vs H Q _ => ∃ (a : Addr) (ns : List Int), vs = [.ref a] ∧ SqL K H a (ns.map V.int) ∧ LamX.Tabs Tb H ∧ ∀ H', Q (.bl true) H'
theorem ext_z {z : Addr} {H G F : Hp} (e : LamX.ExtN H G) (hz : ∀ b o, H b = some o → (∀ ps, o ≠ .tbl ps) → b ≠ z) (b : ExtZ z G F) : LamX.ExtN H F := fun c o h n => b c o (hz c o h n) (e c o h n) n
theorem rep_b (b : Bool) (x : V) : (List.replicate ((if b = true then (1 : Int) else 0)).toNat [x]).flatten = if b = true then [x] else [] := by
  cases b <;> rfl
theorem lots_plus {G : Hp} {p p2 : Addr} {W : List AT} {r : AT} {b : Bool} (h : Lots G p W) (hr : G r.1 = some (.tup (r.2.map V.int))) (f : G p2 = none) : Lots (L2.upd G p2 (.lst (refs W ++ if b = true then [.ref r.1] else []))) p2 (W ++ if b = true then [r] else []) := by
  refine ⟨?_, fun q hq => ?_⟩
  · rw [upd_same, refs_app]
    cases b <;> rfl
  · have s := same_up (o := .lst (refs W ++ if b = true then [V.ref r.1] else [])) f
    rcases List.mem_append.mp hq with h1 | h1
    · exact s _ _ (h.2 q h1)
    · cases b with
      | false => cases h1
      | true =>
        rw [if_pos rfl, List.mem_singleton] at h1
        rw [h1]
        exact s _ _ hr
theorem map_if (b : Bool) (r : AT) : (if b = true then [r] else []).map (·.2) = if b = true then [r.2] else [] := by
  cases b <;> rfl
section
variable {P : Program} {w : World} {K : PySem.W.Frag} {mg : Str → Option Value} {base : Heap} {c : Fo} {Tb : TbL}
abbrev nW : List Str := ["_law_script", "_law_k", "_law_source", "_law_many", "_law_votes_here", "_law_need_here", "_law_unruly_here", "_law_writes", "_law_enough", "_law_lot", "_law_can_write", "_law_can_read", "_law_other"]
theorem scLaw : FnScope nW ["_law_script"] (defScope sLaw) := ⟨rfl, rfl, rfl, by decide +kernel, rfl, by decide +kernel, by decide +kernel⟩
abbrev psLE : List Str := ["_law_votes_here", "_law_need_here", "_law_unruly_here", "_law_lot"]
theorem ok_law {f : Addr} {fd : FuncData} (F : Fun K "law" "law" sLaw f fd) (T : Cst mg) (DP : Df P w K mg base 1 "_law_pool" ["_law_script", "_law_k"] (spPool K)) (DR : Df P w K mg base 1 "_law_rounds" ["_law_script"] (spRounds K)) (DC : Df P w K mg base 4 "_law_case" ["_law_source", "_law_most"] spCase)
    (DA : Df P w K mg base 1 "_law_all_lots" ["_law_many"] spLAll) (DN : Df P w K mg base 1 "_law_in_size" ["_law_lots"] spInS) (DS : Df P w K mg base 1 "_law_sum" ["_law_votes_here", "_law_lot"] spLSum) (DQ : Df P w K mg base 2 "_law_is_enough" psLE spLEn) (DM : Df P w K mg base 1 "_law_meets" ["_law_lot", "_law_other", "_law_unruly_here"] spMeets)
    (DI : Df P w K mg base 3 "is_votes" ["value"] (spIsV K)) (DW : DfX P w K mg base 5 "is_write_lot" ["votes", "need", "lot"] (spIsW K c.v c.e c.p)) (DE : DfX P w K mg base 6 "is_enough" psVNUL (spIsE K Tb c.v c.e c.n c.p)) (DES : DfX P w K mg base 6 "enough_lots" ["votes", "need", "unruly"] (spEs K Tb c.v c.e c.n)) (DWS : DfX P w K mg base 5 "write_lots" ["votes", "need"] (spWs K Tb c.v c.e))
    (DF : DfG P w K mg base 9 "_law_refuses" psRf (spRef Tb)) : FnG P w K mg base 10 f fd ["_law_script"] (spLaw K Tb) := by
  obtain ⟨gP, fdP, GP, mP, kP, bP⟩ := DP.ex
  obtain ⟨gR, fdR, GR, mR, kR, bR⟩ := DR.ex
  obtain ⟨gC, fdC, GC, mC, kC, bC⟩ := DC.ex
  obtain ⟨gA, fdA, GA, mA, kA, bA⟩ := DA.ex
  obtain ⟨gN, fdN, GN, mN, kN, bN⟩ := DN.ex
  obtain ⟨gS, fdS, GS, mS, kS, bS⟩ := DS.ex
  obtain ⟨gQ, fdQ, GQ, mQ, kQ, bQ⟩ := DQ.ex
  obtain ⟨gM, fdM, GM, mM, kM, bM⟩ := DM.ex
  obtain ⟨gI, fdI, GI, mI, kI, bI⟩ := DI.ex
  obtain ⟨gW, fdW, GW, mW, kW, bW⟩ := DW.ex
  obtain ⟨gE, fdE, GE, mE, kE, bE⟩ := DE.ex
  obtain ⟨g1, fd1, G1, m1, k1, b1⟩ := DES.ex
  obtain ⟨g2, fd2, G2, m2, k2, b2⟩ := DWS.ex
  obtain ⟨gF, fdF, GF, mF, kF, bF⟩ := DF.ex
  refine okG F scLaw (fun vs H Q E h => ?_) (fun cdv A outer s H vs Q E hgd hr h => ?_)
  · obtain ⟨a, ns, rfl, _⟩ := h
    rfl
  · obtain ⟨a, ns, rfl, hS, hT, q⟩ := h
    have hu : (A.deeper (envOfC "law" (defScope sLaw) s.heap.objs.size f cdv)).units + 64 < cLine := by
      have := hr.un
      omega
    refine ⟨_, pss_cons (ps_for PassesOwn.never rfl (pi_list (pe_call GR (hr.mono (by decide)) (by rfl) mR kR bR .nil pass0 (pa_cons (pv 0) pa_nil))) (pg_name (i := 1) scLaw.nd rfl (Or.inl rfl))
        (pss_cons (ps_set (i := 2) scLaw.nd rfl (Or.inl rfl) (pe_call GP (hr.mono (by decide)) (by rfl) mP kP bP .nil pass0 (pa_cons (pv 0) (pa_cons (pv 1) pa_nil))))
        (pss_cons (ps_asg (pe_call GC (hr.mono (by decide)) (by rfl) mC kC bC .nil pass0 (pa_cons (pv 2) (pa_cons pe_int pa_nil))) (pg_lst rfl (pgs_cons (pg_name (i := 3) scLaw.nd rfl (Or.inl rfl)) (pgs_cons (pg_name (i := 4) scLaw.nd rfl (Or.inl rfl)) (pgs_cons (pg_name (i := 5) scLaw.nd rfl (Or.inl rfl)) (pgs_cons (pg_name (i := 6) scLaw.nd rfl (Or.inr rfl)) pgs_nil))))))
        (pss_cons (ps_par (i := 7) (j := 8) (by rfl) scLaw.nd rfl rfl (by decide) rfl rfl (pa_cons (pe_lst pa_nil) (pa_cons (pe_lst pa_nil) pa_nil)) (by rfl))
        (pss_cons (ps_for PassesOwn.never rfl (pi_list (pe_call GA (hr.mono (by decide)) (by rfl) mA kA bA .nil pass0 (pa_cons (pv 3) pa_nil))) (pg_name (i := 9) scLaw.nd rfl (Or.inr rfl))
          (pss_cons (ps_set (i := 10) scLaw.nd rfl (Or.inl rfl) (pe_cmpR op_ge (pe_call GS (hr.mono (by decide)) (by rfl) mS kS bS .nil pass0 (pa_cons (pv 4) (pa_cons (pv 9) pa_nil))) (pv 5) (nomark _)))
          (pss_cons (ps_set (i := 11) scLaw.nd rfl (Or.inl rfl) (pe_call GQ (hr.mono (by decide)) (by rfl) mQ kQ bQ .nil pass0 (pa_cons (pv 4) (pa_cons (pv 5) (pa_cons (pv 6) (pa_cons (pv 9) pa_nil))))))
          (pss_cons (ps_if (pt_cmpR op_ne (pe_call (E := fun _ _ _ => False) GW (hr.mono (by decide)) (by rfl) mW kW bW .nil (passes_call takes0 fun _ _ _ _ h => h) (pa_cons (pv 4) (pa_cons (pv 5) (pa_cons (pv 9) pa_nil)))) (pv 10) (nomark _)) (pss_one (ps_ret pe_bl)) pss_nil)
          (pss_cons (ps_if (pt_cmpR op_ne (pe_call (E := fun _ _ _ => False) GE (hr.mono (by decide)) (by rfl) mE kE bE .nil (passes_call takes0 fun _ _ _ _ h => h) (pa_cons (pv 4) (pa_cons (pv 5) (pa_cons (pv 6) (pa_cons (pv 9) pa_nil))))) (pv 11) (nomark _)) (pss_one (ps_ret pe_bl)) pss_nil)
          (pss_one (ps_par (i := 7) (j := 8) (by rfl) scLaw.nd rfl rfl (by decide) rfl rfl (pa_cons (pe_op op_cat (pv 7) (pe_op (show OpR _ (binaryOp .Mult) rRep from op_rep) (pe_lst (pa_cons (pv 9) pa_nil)) (pe_callTy call_int1 (by rfl) T.tint (by decide +kernel) (pa_cons (pv 10) pa_nil))))
              (pa_cons (pe_op op_cat (pv 8) (pe_op (show OpR _ (binaryOp .Mult) rRep from op_rep) (pe_lst (pa_cons (pv 9) pa_nil)) (pe_callTy call_int1 (by rfl) T.tint (by decide +kernel) (pa_cons (pv 11) pa_nil)))) pa_nil)) (by rfl))))))))
        (pss_cons (ps_if (PW.pt (pw_or (pt_cmpR op_isnot_bl (pe_call GI (hr.mono (by decide)) (by rfl) mI kI bI .nil pass0 (pa_cons (pv 4) pa_nil)) pe_bl (nomark _)) (pw_or1 (pt_cmpR (op_neD hu) (pe_call (E := fun _ _ _ => False) G2 (hr.mono (by decide)) (by rfl) m2 k2 b2 .nil (passes_call takes0 fun _ _ _ _ h => h) (pa_cons (pv 4) (pa_cons (pv 5) pa_nil))) (pe_call GN (hr.mono (by decide)) (by rfl) mN kN bN .nil pass0 (pa_cons (pv 7) pa_nil)) (nomark _))))) (pss_one (ps_ret pe_bl)) pss_nil)
        (pss_cons (ps_if (pt_cmpR (op_neD hu) (pe_call (E := fun _ _ _ => False) G1 (hr.mono (by decide)) (by rfl) m1 k1 b1 .nil (passes_call takes0 fun _ _ _ _ h => h) (pa_cons (pv 4) (pa_cons (pv 5) (pa_cons (pv 6) pa_nil)))) (pe_call GN (hr.mono (by decide)) (by rfl) mN kN bN .nil pass0 (pa_cons (pv 8) pa_nil)) (nomark _)) (pss_one (ps_ret pe_bl)) pss_nil)
        (pss_cons (ps_for PassesOwn.never rfl (pi_list (pv 8)) (pg_name (i := 9) scLaw.nd rfl (Or.inr rfl))
          (pss_one (ps_if (pt_cmpR (op_neD hu) (pe_lc (own := [("_law_other", 12)]) (g := gName 12) (tt := _) rfl scLaw.nd (pi_list (pv 7)) (blkOk_by (own := [("_law_other", 12)]) (N := nW) (sc := defScope sLaw) (by decide +kernel))
              (fun _ _ _ _ _ => pg_name (i := 12) scLaw.nd rfl (Or.inl rfl)) (fun _ _ _ _ _ => pts_one (pt_not (pt_val (pe_call GM (hr.mono (by decide)) (by rfl) mM kM bM .nil pass0 (pa_cons (pv 9) (pa_cons (pv 12) (pa_cons (pv 6) pa_nil))))))) (fun _ _ _ _ _ => pv 12)) (pe_lst pa_nil) (nomark _)) (pss_one (ps_ret pe_bl)) pss_nil)))
        (pss_one (ps_if (pt_not (pt_val (pe_callG GF hgd hr (by rfl) mF kF bF (pa_cons (pv 2) (pa_cons (pv 3) (pa_cons (pv 4) (pa_cons (pv 5) (pa_cons (pv 6) pa_nil)))))))) (pss_one (ps_ret pe_bl)) pss_nil))))))))))
      (pss_one (ps_ret pe_bl)), ?_⟩
    refine ⟨_, rfl, a, ns, rfl, hS, fun N p0 G0 hN s0 hp0 => ⟨p0, rfl, ⟨_, SqL.of hp0⟩, ?_⟩⟩
    refine for_it (walk_list (K := K) (a := p0) (xs := (rgZ N).map V.int)) (fun i σ G => (∃ x1 x2 x3 x4 x5 x6 x7 x8 x9 x10 x11, σ = [some (.ref a), x1, x2, x3, x4, x5, x6, x7, x8, x9, x10, x11, none]) ∧ LamX.ExtN G0 G ∧ LamX.Tabs Tb G) ⟨⟨_, _, _, _, _, _, _, _, _, _, _, rfl⟩, LamX.ExtN.refl _, hT.ext s0⟩ (fun i σ G _ h => SqL.of (ext_at h.2.1 hp0)) ?_ ?_
    · rintro i y σ G G' hi ⟨⟨x1, x2, x3, x4, x5, x6, x7, x8, x9, x10, x11, rfl⟩, e1, t1⟩ ⟨rfl, hy⟩
      obtain ⟨k, hk, rfl⟩ := zV_get hy
      have hk2 := (rgZ_lot N).2 k (List.mem_of_getElem? hk)
      refine ⟨_, rfl, _, rfl, a, ns, k, rfl, sql_ext ((LamX.ExtN.of s0).trans e1) hS, hk2.1, by omega, fun z G1 nz s1 z1 => ?_⟩
      have nz0 : ∀ b o, G0 b = some o → (∀ ps, o ≠ .tbl ps) → b ≠ z := fun b o h no => ne_of_none (e1 _ _ h no) nz
      have eG : LamX.ExtN G0 G1 := e1.trans (LamX.ExtN.of s1)
      have tG := t1.ext s1
      refine ⟨_, rfl, z, rfl, z1, fun p tv v d u G2 b2 z2 fp pz tz hp hv vk d0 d1 u0 u1 => ⟨p, _, rfl, SqL.of hp, rfl, _, _, rfl, _, _, rfl, _, _, rfl, _, _, rfl, rfl, ?_⟩⟩
      have e2 := ext_but eG nz0 b2
      have t2 := tabs_but b2 z1 tG
      have l5 := vk.len
      have l1 := vk.one
      refine ⟨by show 0 ≤ sizeLine; decide, fun wp hwp => ⟨by show 0 ≤ sizeLine; decide, fun ep hep => ⟨_, _, rfl, ?_⟩⟩⟩
      have sA : Same G2 (upd G2 wp (.lst [])) := same_up hwp
      have fw : upd G2 wp (.lst []) wp = some (.lst []) := upd_same
      generalize upd G2 wp (.lst []) = G3 at sA fw hep ⊢
      have sB : Same G3 (upd G3 ep (.lst [])) := same_up hep
      have fe : upd G3 ep (.lst []) ep = some (.lst []) := upd_same
      have fw2 := sB _ _ fw
      have sAB := sA.trans sB
      generalize upd G3 ep (.lst []) = G4 at sAB fe fw2 ⊢
      refine ⟨_, rfl, v.length, rfl, by omega, by omega, fun pl L G5 s5 hL eL => ⟨pl, rfl, ⟨_, SqL.of hL.1⟩, ?_⟩⟩
      have s25 := sAB.trans s5
      have lL : L.length ≤ 32 := by
        have e := congrArg List.length eL
        rw [List.length_map, subs_len, rgZ_len] at e
        rw [e]
        exact pow5 (by omega)
      have fL : ∀ q ∈ L, Lot v.length q.2 := fun q hq => (rgZ_lot _).sub (mem_subs.mp (eL ▸ List.mem_map.mpr ⟨q, hq, rfl⟩))
      have fL5 : ∀ q ∈ L, q.2.length ≤ 5 := fun q hq => ((fL q hq).mono (m := 5) (by omega)).len
      refine for_it (walk_list (K := K) (a := pl) (xs := refs L)) (fun j σ F => ∃ wp ep W M x9 x10 x11, σ = [some (.ref a), some (.int k), some (.ref z), some (.int v.length), some (.ref tv), some (.int d), some (.int u), some (.ref wp), some (.ref ep), x9, x10, x11, none] ∧ LamX.ExtN G5 F ∧ LamX.Tabs Tb F ∧ Lots F wp W ∧ Lots F ep M ∧ W.map (·.2) = ((L.take j).map (·.2)).filter (writeP v d) ∧ M.map (·.2) = ((L.take j).map (·.2)).filter (enoughP v d u.toNat))
        ⟨wp, ep, [], [], _, _, _, rfl, LamX.ExtN.refl _, t2.ext s25, ⟨s5 _ _ fw2, fun q hq => by cases hq⟩, ⟨s5 _ _ fe, fun q hq => by cases hq⟩, rfl, rfl⟩ (fun j σ F _ h => by
        obtain ⟨_, _, _, _, _, _, _, _, h, _⟩ := h
        exact SqL.of (ext_at h hL.1)) ?_ ?_
      · rintro j y σ F F' hj ⟨wp, ep, W, M, x9, x10, x11, rfl, e6, t6, hW, hM, eW, eM⟩ ⟨rfl, hy⟩
        obtain ⟨r, hr', rfl⟩ := refs_get hy
        have rL := List.mem_of_getElem? hr'
        have r5 := fL5 r rL
        have hv6 := ext_tp e6 (s25 _ _ hv)
        have hr6 := ext_tp e6 (hL.2 r rL)
        have vl : Vl v u r.2 := ⟨vk, u0, by omega, fL r rL⟩
        have lW : W.length ≤ 32 := by
          have e := congrArg List.length eW
          rw [List.length_map] at e
          rw [e]
          refine Nat.le_trans (List.length_filter_le _ _) ?_
          rw [List.length_map, List.length_take]
          omega
        have lM : M.length ≤ 32 := by
          have e := congrArg List.length eM
          rw [List.length_map] at e
          rw [e]
          refine Nat.le_trans (List.length_filter_le _ _) ?_
          rw [List.length_map, List.length_take]
          omega
        refine ⟨_, rfl, _, rfl, tv, r.1, v, r.2, rfl, hv6, hr6, (fL r rL).2, by omega, fun F1 s1' => ⟨_, rfl, rI0_to (v := V.bl (writeP v d r.2)) rfl ?_⟩⟩
        refine ⟨_, rfl, _, rfl, _, rfl, _, rfl, tv, r.1, v, r.2, d, u, rfl, s1' _ _ hv6, s1' _ _ hr6, vl, fun F2 s2' => ?_⟩
        have s12 := s1'.trans s2'
        refine ⟨_, rfl, _, rfl, _, rfl, .ref tv, .int d, .ref r.1, rfl, ckv_ok (s12 _ _ hv6) vk d0 d1 ⟨v, ⟨tv, rfl, s12 _ _ hv6, vk⟩, _, Tz.lot (s12 _ _ hr6) (by omega), (fun no => by
          rw [okT_lot (fL r rL)] at no
          cases no), fun _ => ⟨r.1, r.2, d, rfl, rfl, s12 _ _ hr6, fL r rL, fun F3 s3' => ?_⟩⟩⟩
        refine ⟨_, rfl, rfl, _, rfl, ?_⟩; skip
        rw [show (!decide (V.bl (writeP v d r.2) = V.bl (writeP v d r.2))) = false from by simp]
        refine iteF ?_
        have s13 := s12.trans s3'
        refine ⟨_, rfl, _, rfl, _, rfl, _, rfl, .ref tv, .int d, .int u, .ref r.1, rfl, ckv_ok (s13 _ _ hv6) vk d0 d1 ⟨v, ⟨tv, rfl, s13 _ _ hv6, vk⟩, .int u, .fl (.int u), (fun no => by
          rw [within_yes u0 u1] at no
          cases no), fun _ => ⟨_, Tz.lot (s13 _ _ hr6) (by omega), (fun no => by
          rw [okT_lot (fL r rL)] at no
          cases no), fun _ => ⟨r.1, r.2, d, u, rfl, rfl, rfl, s13 _ _ hr6, vl, t6.ext s13, fun F4 e4' t4' => ?_⟩⟩⟩⟩
        refine ⟨_, rfl, rfl, _, rfl, ?_⟩; skip
        rw [show (!decide (V.bl (enoughP v d u.toNat r.2) = V.bl (enoughP v d u.toNat r.2))) = false from by simp]
        refine iteF ?_
        have e14 := (LamX.ExtN.of s13).trans e4'
        have hW4 := hW.ext e14
        have hM4 := hM.ext e14
        have hr4 := ext_tp e14 hr6
        have h63 := line63
        have hsz := sizeLine_eq
        refine ⟨_, rfl, _, rfl, by show 1 ≤ sizeLine; decide, fun l1' hl1' => ?_⟩
        have q1 := same_up (o := .lst [V.ref r.1]) hl1'
        have g1' : upd F4 l1' (.lst [V.ref r.1]) l1' = some (.lst [V.ref r.1]) := upd_same
        generalize upd F4 l1' (.lst [V.ref r.1]) = F5 at q1 g1' ⊢
        refine ⟨_, rfl, .inr ⟨_, rfl, ?_⟩⟩
        refine ⟨l1', _, [.ref r.1], rfl, rfl, g1', by split <;> omega, by split <;> omega, by split <;> simp [sizeLine_eq], fun p1 hp1 => ?_⟩
        rw [rep_b]
        have q2 := q1.trans (same_up (o := .lst (if writeP v d r.2 = true then [V.ref r.1] else [])) hp1)
        have g2' : upd F5 p1 (.lst (if writeP v d r.2 = true then [V.ref r.1] else [])) p1 = some (.lst (if writeP v d r.2 = true then [V.ref r.1] else [])) := upd_same
        generalize upd F5 p1 (.lst (if writeP v d r.2 = true then [V.ref r.1] else [])) = F6 at q2 g2' ⊢
        refine ⟨wp, p1, _, _, rfl, rfl, (hW4.same q2).1, g2', Nat.le_of_lt (small1000 (by rw [refs_len]; split <;> simp <;> omega)), fun w2 hw2 => ?_⟩
        have hW6 := lots_plus (b := writeP v d r.2) (hW4.same q2) (q2 _ _ hr4) hw2
        have q3 := q2.trans (same_up (o := .lst (refs W ++ if writeP v d r.2 = true then [V.ref r.1] else [])) hw2)
        generalize upd F6 w2 (.lst (refs W ++ if writeP v d r.2 = true then [V.ref r.1] else [])) = F7 at q3 hW6 ⊢
        refine ⟨_, rfl, _, rfl, by show 1 ≤ sizeLine; decide, fun l2' hl2' => ?_⟩
        have q4 := q3.trans (same_up (o := .lst [V.ref r.1]) hl2')
        have hW7 := hW6.same (same_up (o := .lst [V.ref r.1]) hl2')
        have g3' : upd F7 l2' (.lst [V.ref r.1]) l2' = some (.lst [V.ref r.1]) := upd_same
        generalize upd F7 l2' (.lst [V.ref r.1]) = F8 at q4 hW7 g3' ⊢
        refine ⟨_, rfl, .inr ⟨_, rfl, ?_⟩⟩
        refine ⟨l2', _, [.ref r.1], rfl, rfl, g3', by split <;> omega, by split <;> omega, by split <;> simp [sizeLine_eq], fun p3 hp3 => ?_⟩
        rw [rep_b]
        have sp3 := same_up (o := .lst (if enoughP v d u.toNat r.2 = true then [V.ref r.1] else [])) hp3
        have q5 := q4.trans sp3
        have hW8 := hW7.same sp3
        have g4' : upd F8 p3 (.lst (if enoughP v d u.toNat r.2 = true then [V.ref r.1] else [])) p3 = some (.lst (if enoughP v d u.toNat r.2 = true then [V.ref r.1] else [])) := upd_same
        generalize upd F8 p3 (.lst (if enoughP v d u.toNat r.2 = true then [V.ref r.1] else [])) = F9 at q5 hW8 g4' ⊢
        refine ⟨ep, p3, _, _, rfl, rfl, (hM4.same q5).1, g4', Nat.le_of_lt (small1000 (by rw [refs_len]; split <;> simp <;> omega)), fun m2' hm2' => ?_⟩
        have hM9 := lots_plus (b := enoughP v d u.toNat r.2) (hM4.same q5) (q5 _ _ hr4) hm2'
        have sm2 := same_up (o := .lst (refs M ++ if enoughP v d u.toNat r.2 = true then [V.ref r.1] else [])) hm2'
        have q6 := q5.trans sm2
        have hW9 := hW8.same sm2
        generalize upd F9 m2' (.lst (refs M ++ if enoughP v d u.toNat r.2 = true then [V.ref r.1] else [])) = F10 at q6 hM9 hW9 ⊢
        refine ⟨_, _, rfl, ?_⟩
        refine ⟨w2, m2', _, _, _, _, _, rfl, (e6.trans e14).trans (LamX.ExtN.of q6), t4'.ext q6, hW9, hM9, ?_, ?_⟩
        · rw [List.map_append, map_if, eW, take_next1 hr', List.map_append, List.filter_append, List.map_singleton, List.filter_cons, List.filter_nil]
        · rw [List.map_append, map_if, eM, take_next1 hr', List.map_append, List.filter_append, List.map_singleton, List.filter_cons, List.filter_nil]
      rintro σ F ⟨wp, ep, W, M, x9, x10, x11, rfl, e6, t6, hW, hM, eW, eM⟩
      rw [refs_len, List.take_length, eL] at eW eM
      have mW : ∀ q ∈ W, writeP v d q.2 = true ∧ Lot v.length q.2 := fun q hq => by
        have m : q.2 ∈ (subs (rgZ v.length)).filter (writeP v d) := eW ▸ List.mem_map.mpr ⟨q, hq, rfl⟩
        exact ⟨(List.mem_filter.mp m).2, (rgZ_lot _).sub (mem_subs.mp (List.mem_filter.mp m).1)⟩
      have mM : ∀ q ∈ M, enoughP v d u.toNat q.2 = true ∧ Lot v.length q.2 := fun q hq => by
        have m : q.2 ∈ (subs (rgZ v.length)).filter (enoughP v d u.toNat) := eM ▸ List.mem_map.mpr ⟨q, hq, rfl⟩
        exact ⟨(List.mem_filter.mp m).2, (rgZ_lot _).sub (mem_subs.mp (List.mem_filter.mp m).1)⟩
      have l32 : (subs (rgZ v.length)).length ≤ 32 := by
        rw [subs_len, rgZ_len]
        exact pow5 (by omega)
      have lW : W.length ≤ 32 := by
        have e := congrArg List.length eW
        rw [List.length_map] at e
        rw [e]
        exact Nat.le_trans (List.length_filter_le _ _) l32
      have lM : M.length ≤ 32 := by
        have e := congrArg List.length eM
        rw [List.length_map] at e
        rw [e]
        exact Nat.le_trans (List.length_filter_le _ _) l32
      have rl : (rgZ v.length).length ≤ 5 := by
        rw [rgZ_len]
        omega
      have hvF := ext_tp e6 (s25 _ _ hv)
      have e2F := (e2.trans (LamX.ExtN.of s25)).trans e6
      have zF := (z2.same s25).ext e6
      refine ⟨_, rfl, .ref tv, _, rfl, tz_votes hvF vk, fun F1 s1' => ?_⟩
      rw [okV_of vk]
      refine ⟨true, true, rfl, rfl, _, rfl, ?_⟩
      rw [show (!decide (true = true)) = false from by decide]
      refine iteF ?_
      have hv1 := s1' _ _ hvF
      refine ⟨_, rfl, _, rfl, .ref tv, .int d, rfl, ckv_ok hv1 vk d0 d1 ⟨v, ⟨tv, rfl, hv1, vk⟩, d, rfl, t6.ext s1', fun pw PW F2 e2' t2' hPW ePW => ?_⟩⟩
      have e12 := (LamX.ExtN.of s1').trans e2'
      refine ⟨_, rfl, wp, W, rfl, hW.ext e12, lW, fun q hq => ((mW q hq).2.mono (m := 5) (by omega)).len, fun p3 S3 F3 s3' hS3 eS3 => ?_⟩
      refine ⟨datZs (PW.map (·.2)), datZs (S3.map (·.2)), dp_Zs (hPW.same s3'), dp_Zs hS3, shaped_Zs _, shaped_Zs _, ⟨_, rfl, ?_⟩⟩
      have ev : PyData.eqv (datZs (PW.map (·.2))) (datZs (S3.map (·.2))) = true := by
        show PyData.eqvAll _ _ = true
        rw [eqv_Zs, ePW, eS3, eW, inSize_parts rl]
        exact decide_eq_true rfl
      rw [ev]
      refine iteF ?_
      have e13 := e12.trans (LamX.ExtN.of s3')
      have t3' := t2'.ext s3'
      have hv3 := ext_tp e13 hvF
      refine ⟨_, rfl, _, rfl, _, rfl, .ref tv, .int d, .int u, rfl, ckv_ok hv3 vk d0 d1 ⟨v, ⟨tv, rfl, hv3, vk⟩, .int u, .fl (.int u), (fun no => by
        rw [within_yes u0 u1] at no
        cases no), fun _ => ⟨d, u, rfl, rfl, u0, by omega, t3', fun pe PE F4 e4' t4' hPE ePE => ?_⟩⟩⟩
      have e14 := e13.trans e4'
      refine ⟨_, rfl, ep, M, rfl, hM.ext e14, lM, fun q hq => ((mM q hq).2.mono (m := 5) (by omega)).len, fun p5 S5 F5 s5' hS5 eS5 => ?_⟩
      refine ⟨datZs (PE.map (·.2)), datZs (S5.map (·.2)), dp_Zs (hPE.same s5'), dp_Zs hS5, shaped_Zs _, shaped_Zs _, ⟨_, rfl, ?_⟩⟩
      have ev2 : PyData.eqv (datZs (PE.map (·.2))) (datZs (S5.map (·.2))) = true := by
        show PyData.eqvAll _ _ = true
        rw [eqv_Zs, ePE, eS5, eM, inSize_parts rl]
        exact decide_eq_true rfl
      rw [ev2]
      refine iteF ?_
      have e15 := e14.trans (LamX.ExtN.of s5')
      have t5' := t4'.ext s5'
      have hW5 := hW.ext e15
      have hM5 := hM.ext e15
      refine ⟨_, rfl, ep, rfl, ⟨_, SqL.of hM5.1⟩, ?_⟩
      refine for_it (walk_list (K := K) (a := ep) (xs := refs M)) (fun j σ F => (∃ x9 x10 x11, σ = [some (.ref a), some (.int k), some (.ref z), some (.int v.length), some (.ref tv), some (.int d), some (.int u), some (.ref wp), some (.ref ep), x9, x10, x11, none]) ∧ Same F5 F) ⟨⟨_, _, _, rfl⟩, fun _ _ e => e⟩ (fun j σ F _ h => SqL.of (h.2 _ _ hM5.1)) ?_ ?_
      · rintro j y σ F6 F7 hj ⟨⟨x9, x10, x11, rfl⟩, s6'⟩ ⟨rfl, hy⟩
        obtain ⟨r, hr', rfl⟩ := refs_get hy
        have rM := List.mem_of_getElem? hr'
        have hW6 := hW5.same s6'
        have hr6 := s6' _ _ (hM5.2 r rM)
        have r5 := ((mM r rM).2.mono (m := 5) (by omega)).len
        refine ⟨_, rfl, wp, rfl, ⟨_, SqL.of hW6.1⟩, fun D hD => ?_⟩
        refine walk_core (walk_list (K := K) (a := wp) (xs := refs W)) (fun j F => Same F7 F ∧ F D = some (.lst [])) ⟨same_up hD, upd_same⟩ (fun _ _ _ g => SqL.of (g.1 _ _ hW6.1)) ?_ ?_
        · rintro j y F8 F9 hj ⟨s8, h8⟩ ⟨rfl, hy⟩
          obtain ⟨o, ho', rfl⟩ := refs_get hy
          have oW := List.mem_of_getElem? ho'
          refine ⟨rfl, _, rfl, _, rfl, _, rfl, r.1, o.1, r.2, o.2, u, rfl, s8 _ _ hr6, s8 _ _ (hW6.2 o oW), by omega, fun F10 s10 => ⟨_, rfl, ?_⟩⟩
          have mt := meets_ok vk.nn (mM r rM).2 (mW o oW).2 (mM r rM).1 (mW o oW).1
          rw [decide_eq_true (by omega : u < ((cap r.2 o.2).length : Nat))]
          exact iteF ⟨s8.trans s10, s10 _ _ h8⟩
        · rintro F8 ⟨s8, h8⟩
          refine ⟨by show 0 ≤ sizeLine; decide, fun l0 hl0 => ?_⟩
          have s9 := same_up (o := .lst []) hl0
          refine ⟨.list [], .list [], .lst (SqL.of (xs := []) (s9 _ _ h8)) .nil, .lst (SqL.of (xs := []) upd_same) .nil, by decide, by decide, ⟨_, rfl, ?_⟩⟩
          rw [show PyData.eqv (.list []) (.list []) = true from rfl]
          exact iteF ⟨⟨_, _, _, rfl⟩, (s6'.trans s8).trans s9⟩
      rintro σ F6 ⟨⟨x9, x10, x11, rfl⟩, s6'⟩
      have e16 := e15.trans (LamX.ExtN.of s6')
      refine ⟨_, rfl, _, rfl, _, rfl, _, rfl, _, rfl, z, tv, v, d, u, rfl, zF.ext e16, ext_tp e16 hvF, vk, d0, d1, u0, u1, t5'.ext s6', fun F7 eZ t7 => ⟨_, rfl, iteF ?_⟩⟩
      exact ⟨⟨_, _, _, _, _, _, _, _, _, _, _, rfl⟩, ext_z (e2F.trans e16) nz0 eZ, t7⟩
    · rintro σ G ⟨_, _, _⟩
      exact q G
end
end Pl

namespace Pl
open L2 PySem PySem.Spec PyProof.Rows
/-- a def of the top, under its name -/
def AtD (K : PySem.W.Frag) (x : Str) (st : Stmt) : Prop := ∃ (f : Addr) (fd : FuncData), PySem.W.nsIn K mainGlobals x = some (some (.ref f)) ∧ Fun K x x st f fd
def tbX (cs : List (Addr × Addr)) (a b c : Str) : TbL := (cs.map fun q => q.2).zip [a, b, c]
theorem tbX3 {c1 c2 c3 P1 P2 P3 : Addr} {a b c : Str} : tbX [(c1, P1), (c2, P2), (c3, P3)] a b c = [(P1, a), (P2, b), (P3, c)] := rfl
def tbOf (cs : List (Addr × Addr)) : TbL := tbX cs lamA lamH lamR
section
variable {α β : Type} {p q r : α × β} {P1 P2 P3 : α} {a b c : β}
theorem hm1 : p ∈ [p, q, r] := List.mem_cons_self
theorem hm2 : q ∈ [p, q, r] := List.mem_cons_of_mem _ List.mem_cons_self
theorem hm3 : r ∈ [p, q, r] := List.mem_cons_of_mem _ (List.mem_cons_of_mem _ List.mem_cons_self)
theorem hu1 (h12 : P1 ≠ P2) (h13 : P1 ≠ P3) : ∀ t ∈ [(P1, a), (P2, b), (P3, c)], t.1 = P1 → t.2 = a := fun t ht e => by
  simp only [List.mem_cons, List.not_mem_nil, or_false] at ht
  rcases ht with h | h | h
  · subst h; exact rfl
  · subst h; exact absurd e.symm h12
  · subst h; exact absurd e.symm h13
theorem hu2 (h12 : P1 ≠ P2) (h23 : P2 ≠ P3) : ∀ t ∈ [(P1, a), (P2, b), (P3, c)], t.1 = P2 → t.2 = b := fun t ht e => by
  simp only [List.mem_cons, List.not_mem_nil, or_false] at ht
  rcases ht with h | h | h
  · subst h; exact absurd e h12
  · subst h; exact rfl
  · subst h; exact absurd e.symm h23
theorem hu3 (h13 : P1 ≠ P3) (h23 : P2 ≠ P3) : ∀ t ∈ [(P1, a), (P2, b), (P3, c)], t.1 = P3 → t.2 = c := fun t ht e => by
  simp only [List.mem_cons, List.not_mem_nil, or_false] at ht
  rcases ht with h | h | h
  · subst h; exact absurd e h13
  · subst h; exact absurd e h23
  · subst h; exact rfl
end
theorem all3 {p : Addr × Addr → Prop} {a b c : Addr × Addr} (h1 : p a) (h2 : p b) (h3 : p c) : ∀ q ∈ [a, b, c], p q := fun q hq => by
  simp only [List.mem_cons, List.not_mem_nil, or_false] at hq
  rcases hq with rfl | rfl | rfl
  · exact h1
  · exact h2
  · exact h3
theorem tbOf_tabs {cs : List (Addr × Addr)} {H : Hp} (h : ∀ q ∈ cs, H q.2 = some (.tbl #[])) : LamX.Tabs (tbOf cs) H := fun p hp => by
  obtain ⟨a, b⟩ := p
  obtain ⟨q, hq, e⟩ := List.mem_map.mp (List.of_mem_zip hp).1
  have e' : q.2 = a := e
  exact LamX.TabS.nil (e' ▸ h q hq)
theorem walkP {l : PySem.W.OpenLaw} {n : Nat} {qp : Program} {loose : List Str} {XP : (Str → Option Value) → Heap → Prop} {YP : World → Heap → Prop} {d : DefRec} {K : Params → PySem.W.Frag}
    (hn : l.most = some n) (hn2 : n ≤ sizeLine) (hdf : d.params.defaults = []) (hY : ∀ (w : World) (h : Heap), YP w h → (K w.params).In h)
    (F : ∀ (w : World) (mg : Str → Option Value) (fa : Addr) (h : Heap), YP w h → (K w.params).In h → h.Ns mainGlobals mg → mg d.name = some (.ref fa) → LawM l w (K w.params) mg fa h 10 (fun cs => spLaw (K w.params) (tbOf cs))) :
    PySem.W.WalkO qp loose XP YP l.row.toRowW d [] (fun f vs => PySem.call f vs) :=
  walkM (sp := fun w cs => spLaw (K w.params) (tbOf cs)) hn hn2 hdf ⟨rfl, by decide, by decide⟩ hY (fun w cs H a ns hH seq => ⟨a, ns, rfl, seq, tbOf_tabs hH, fun _ => rfl⟩) F
theorem all_mk {l : PySem.W.OpenLaw} {w : World} {K : PySem.W.Frag} {h : Heap} {mg : Str → Option Value} {fa : Addr} (X : K.In h) (G : h.Ns mainGlobals mg) (hfa : mg "law" = some (.ref fa))
    {tk1 tk2 : Tok} {ft1 ct1 Pt1 : Addr} {odt1 ant1 odc1 : Option Addr} {slt1 slc1 : Array (Option Value)} {oct1 kVt1 dct1 pmt1 ctt1 : Value} {vsC1 : Array Value} {ft2 ct2 Pt2 : Addr} {odt2 ant2 odc2 : Option Addr} {slt2 slc2 : Array (Option Value)} {oct2 kVt2 dct2 pmt2 ctt2 : Value} {vsC2 : Array Value} {ft3 ct3 Pt3 : Addr} {odt3 ant3 odc3 : Option Addr} {slt3 slc3 : Array (Option Value)} {oct3 kVt3 dct3 pmt3 ctt3 : Value} {vsC3 : Array Value} {C_n fI_n S_n N_n : Addr} {odI_n anI_n dd_n : Option Addr} {slI_n : Array (Option Value)} {ocI_n kVI_n dcI_n pmI_n cdI_n ctI_n : Value} {nm_n q_n : Str} {bs_n sub_n : List Value} {sn_n : List Str} {ab_n : Bool} {col_n : Option Bool} {u0_n u1_n u2_n u3_n u5_n : Option Value} {C_p fI_p S_p N_p : Addr} {odI_p anI_p dd_p : Option Addr} {slI_p : Array (Option Value)} {ocI_p kVI_p dcI_p pmI_p cdI_p ctI_p : Value} {nm_p q_p : Str} {bs_p sub_p : List Value} {sn_p : List Str} {ab_p : Bool} {col_p : Option Bool} {u0_p u1_p u2_p u3_p u5_p : Option Value} {C_v fI_v S_v N_v : Addr} {odI_v anI_v dd_v : Option Addr} {slI_v : Array (Option Value)} {ocI_v kVI_v dcI_v pmI_v cdI_v ctI_v : Value} {nm_v q_v : Str} {bs_v sub_v : List Value} {sn_v : List Str} {ab_v : Bool} {col_v : Option Bool} {u0_v u1_v u2_v u3_v u5_v : Option Value} {C_e fI_e S_e N_e : Addr} {odI_e anI_e dd_e : Option Addr} {slI_e : Array (Option Value)} {ocI_e kVI_e dcI_e pmI_e cdI_e ctI_e : Value} {nm_e q_e : Str} {bs_e sub_e : List Value} {sn_e : List Str} {ab_e : Bool} {col_e : Option Bool} {u0_e u1_e u2_e u3_e u5_e : Option Value} {C_q : Addr} {C_c : Addr} {C_b : Addr} {C_k : Addr} {C_r0 : Addr} {C_r1 : Addr} {C_r2 : Addr} {C_r3 : Addr} {C_r4 : Addr} {C_r5 : Addr}
    (A0 : AtD K "is_number" sIsNumber)
    (A1 : AtD K "is_within" sIsWithin)
    (A2 : AtD K "is_lot" sIsLot)
    (A3 : AtD K "check_lot" sCkLot)
    (A4 : AtD K "is_votes" sIsVotes)
    (A5 : AtD K "is_write_lot" sIsWrite)
    (A6 : AtD K "is_enough" sIsEnough)
    (A7 : AtD K "enough_lots" sEnoughs)
    (A8 : AtD K "write_lots" sWrites)
    (A9 : AtD K "check_votes" sCkVotes)
    (A10 : AtD K "check_unruly" sCkUnruly)
    (A11 : AtD K "votes_of" sVotesOf)
    (A12 : AtD K "_lots_of" sLotsOf)
    (A13 : AtD K "_sure_votes" sSure)
    (A14 : AtD K "_has_enough" sHasEn)
    (A15 : AtD K "_law_pool" sPool)
    (A16 : AtD K "_law_take" sTake)
    (A17 : AtD K "_law_one" sOne)
    (A18 : AtD K "_law_rounds" sRounds)
    (A19 : AtD K "_law_all_lots" sLAll)
    (A20 : AtD K "_law_in_size" sInSize)
    (A21 : AtD K "_law_caught" sCaught)
    (A22 : AtD K "_law_votes" sLVotes)
    (A23 : AtD K "_law_sum" sLSum)
    (A24 : AtD K "_law_sure" sLSure)
    (A25 : AtD K "_law_is_enough" sLEnough)
    (A26 : AtD K "_law_case" sCase)
    (A27 : AtD K "_law_meets" sMeets)
    (A28 : AtD K "law" sLaw)
    (z_isinstance : PySem.W.nsIn K mainGlobals "isinstance" = some none)
    (z_len : PySem.W.nsIn K mainGlobals "len" = some none)
    (z_int : PySem.W.nsIn K mainGlobals "int" = some none)
    (z_bool : PySem.W.nsIn K mainGlobals "bool" = some none)
    (z_list : PySem.W.nsIn K mainGlobals "list" = some none)
    (z_tuple : PySem.W.nsIn K mainGlobals "tuple" = some none)
    (z_set : PySem.W.nsIn K mainGlobals "set" = some none)
    (z_range : PySem.W.nsIn K mainGlobals "range" = some none)
    (z_max : PySem.W.nsIn K mainGlobals "max" = some none)
    (z_min : PySem.W.nsIn K mainGlobals "min" = some none)
    (z_repr : PySem.W.nsIn K mainGlobals "repr" = some none)
    (z_enumerate : PySem.W.nsIn K mainGlobals "enumerate" = some none)
    (z_sorted : PySem.W.nsIn K mainGlobals "sorted" = some none)
    (z_all : PySem.W.nsIn K mainGlobals "all" = some none)
    (z_any : PySem.W.nsIn K mainGlobals "any" = some none)
    (z_zip : PySem.W.nsIn K mainGlobals "zip" = some none)
    (z_sum : PySem.W.nsIn K mainGlobals "sum" = some none)
    (g_copies : PySem.W.nsIn K mainGlobals "MOST_COPIES" = some (some (.int 5 tk1)))
    (g_votes : PySem.W.nsIn K mainGlobals "MOST_VOTES" = some (some (.int 9 tk2)))
    (nt1 : PySem.W.nsIn K mainGlobals "all_lots" = some (some (.ref ft1)))
    (lt1 : K.lookup ft1 = some ⟨oct1, odt1, .func (PySem.W.fnOf "all_lots" "all_lots" (defArgs sAllLots) (defBody sAllLots) (defScope sAllLots) .none kVt1 dct1 pmt1 ant1 (.ref ct1) ctt1), slt1⟩)
    (ck1 : PySem.W.codeIn K (.ref ct1) "all_lots" = true)
    (kk1 : PySem.W.keepIn K (.ref ft1) = true)
    (lc1 : K.lookup ct1 = some ⟨.type "code", odc1, .fields vsC1, slc1⟩)
    (hP1 : vsC1[11]? = some (.ref Pt1))
    (hcd1 : PySem.W.codeHdIn K ct1 Pt1 = true)
    (notK1 : K.lookup Pt1 = none)
    (tab1 : h.get? Pt1 = some { cls := .none, data := .fields #[] })
    (nt2 : PySem.W.nsIn K mainGlobals "_heaviest" = some (some (.ref ft2)))
    (lt2 : K.lookup ft2 = some ⟨oct2, odt2, .func (PySem.W.fnOf "_heaviest" "_heaviest" (defArgs sHeavy) (defBody sHeavy) (defScope sHeavy) .none kVt2 dct2 pmt2 ant2 (.ref ct2) ctt2), slt2⟩)
    (ck2 : PySem.W.codeIn K (.ref ct2) "_heaviest" = true)
    (kk2 : PySem.W.keepIn K (.ref ft2) = true)
    (lc2 : K.lookup ct2 = some ⟨.type "code", odc2, .fields vsC2, slc2⟩)
    (hP2 : vsC2[11]? = some (.ref Pt2))
    (hcd2 : PySem.W.codeHdIn K ct2 Pt2 = true)
    (notK2 : K.lookup Pt2 = none)
    (tab2 : h.get? Pt2 = some { cls := .none, data := .fields #[] })
    (nt3 : PySem.W.nsIn K mainGlobals "_law_refuses" = some (some (.ref ft3)))
    (lt3 : K.lookup ft3 = some ⟨oct3, odt3, .func (PySem.W.fnOf "_law_refuses" "_law_refuses" (defArgs sRefused) (defBody sRefused) (defScope sRefused) .none kVt3 dct3 pmt3 ant3 (.ref ct3) ctt3), slt3⟩)
    (ck3 : PySem.W.codeIn K (.ref ct3) "_law_refuses" = true)
    (kk3 : PySem.W.keepIn K (.ref ft3) = true)
    (lc3 : K.lookup ct3 = some ⟨.type "code", odc3, .fields vsC3, slc3⟩)
    (hP3 : vsC3[11]? = some (.ref Pt3))
    (hcd3 : PySem.W.codeHdIn K ct3 Pt3 = true)
    (notK3 : K.lookup Pt3 = none)
    (tab3 : h.get? Pt3 = some { cls := .none, data := .fields #[] })
    (ne12 : Pt1 ≠ Pt2)
    (ne13 : Pt1 ≠ Pt3)
    (ne23 : Pt2 ≠ Pt3)
    (nCn : PySem.W.nsIn K mainGlobals "NoCount" = some (some (.ref C_n)))
    (xLn : K.lookup C_n = some (excClassObj nm_n q_n C_n N_n bs_n [.ref S_n, .type "ValueError", .type "Exception", .type "BaseException", .type "object"] true sn_n sub_n ab_n col_n dd_n u0_n u1_n u2_n u3_n u5_n "ValueError.__new__"))
    (x5n : PySem.W.findIn K (.ref C_n) "__setattr__" = some (some (.builtin "object.__setattr__")))
    (x6n : PySem.W.typeIn K (.ref C_n) = some (.type "type"))
    (x7n : PySem.W.keepIn K (.ref C_n) = true)
    (iIn : PySem.W.findIn K (.ref C_n) "__init__" = some (some (.ref fI_n)))
    (tIn : PySem.W.typeIn K (.ref fI_n) = some (.type "function"))
    (nTn : PySem.W.findIn K (.ref C_n) "told" = some none)
    (lIn : K.lookup fI_n = some ⟨ocI_n, odI_n, .func (PySem.W.fnOf "__init__" "NoCount.__init__" (defArgs (inClass (top 7) 0)) (defBody (inClass (top 7) 0)) (defScope (inClass (top 7) 0)) .none kVI_n dcI_n pmI_n anI_n cdI_n ctI_n), slI_n⟩)
    (cIn : PySem.W.codeIn K cdI_n "NoCount.__init__" = true)
    (kIn : PySem.W.keepIn K (.ref fI_n) = true)
    (x1n : PySem.W.findIn K (.ref C_n) "__getattribute__" = some (some (.builtin "BaseException.__getattribute__")))
    (x2n : PySem.W.findIn K (.ref C_n) "__getattr__" = some none)
    (x3n : PySem.W.subIn K (.ref C_n) (.type "BaseException") = some true)
    (x4n : PySem.W.hasDictIn K C_n = true)
    (nCp : PySem.W.nsIn K mainGlobals "NoLot" = some (some (.ref C_p)))
    (xLp : K.lookup C_p = some (excClassObj nm_p q_p C_p N_p bs_p [.ref S_p, .type "ValueError", .type "Exception", .type "BaseException", .type "object"] true sn_p sub_p ab_p col_p dd_p u0_p u1_p u2_p u3_p u5_p "ValueError.__new__"))
    (x5p : PySem.W.findIn K (.ref C_p) "__setattr__" = some (some (.builtin "object.__setattr__")))
    (x6p : PySem.W.typeIn K (.ref C_p) = some (.type "type"))
    (x7p : PySem.W.keepIn K (.ref C_p) = true)
    (iIp : PySem.W.findIn K (.ref C_p) "__init__" = some (some (.ref fI_p)))
    (tIp : PySem.W.typeIn K (.ref fI_p) = some (.type "function"))
    (nTp : PySem.W.findIn K (.ref C_p) "told" = some none)
    (lIp : K.lookup fI_p = some ⟨ocI_p, odI_p, .func (PySem.W.fnOf "__init__" "NoLot.__init__" (defArgs (inClass (top 9) 0)) (defBody (inClass (top 9) 0)) (defScope (inClass (top 9) 0)) .none kVI_p dcI_p pmI_p anI_p cdI_p ctI_p), slI_p⟩)
    (cIp : PySem.W.codeIn K cdI_p "NoLot.__init__" = true)
    (kIp : PySem.W.keepIn K (.ref fI_p) = true)
    (x1p : PySem.W.findIn K (.ref C_p) "__getattribute__" = some (some (.builtin "BaseException.__getattribute__")))
    (x2p : PySem.W.findIn K (.ref C_p) "__getattr__" = some none)
    (x3p : PySem.W.subIn K (.ref C_p) (.type "BaseException") = some true)
    (x4p : PySem.W.hasDictIn K C_p = true)
    (nCv : PySem.W.nsIn K mainGlobals "NoVotes" = some (some (.ref C_v)))
    (xLv : K.lookup C_v = some (excClassObj nm_v q_v C_v N_v bs_v [.ref S_v, .type "ValueError", .type "Exception", .type "BaseException", .type "object"] true sn_v sub_v ab_v col_v dd_v u0_v u1_v u2_v u3_v u5_v "ValueError.__new__"))
    (x5v : PySem.W.findIn K (.ref C_v) "__setattr__" = some (some (.builtin "object.__setattr__")))
    (x6v : PySem.W.typeIn K (.ref C_v) = some (.type "type"))
    (x7v : PySem.W.keepIn K (.ref C_v) = true)
    (iIv : PySem.W.findIn K (.ref C_v) "__init__" = some (some (.ref fI_v)))
    (tIv : PySem.W.typeIn K (.ref fI_v) = some (.type "function"))
    (nTv : PySem.W.findIn K (.ref C_v) "told" = some none)
    (lIv : K.lookup fI_v = some ⟨ocI_v, odI_v, .func (PySem.W.fnOf "__init__" "NoVotes.__init__" (defArgs (inClass (top 10) 0)) (defBody (inClass (top 10) 0)) (defScope (inClass (top 10) 0)) .none kVI_v dcI_v pmI_v anI_v cdI_v ctI_v), slI_v⟩)
    (cIv : PySem.W.codeIn K cdI_v "NoVotes.__init__" = true)
    (kIv : PySem.W.keepIn K (.ref fI_v) = true)
    (x1v : PySem.W.findIn K (.ref C_v) "__getattribute__" = some (some (.builtin "BaseException.__getattribute__")))
    (x2v : PySem.W.findIn K (.ref C_v) "__getattr__" = some none)
    (x3v : PySem.W.subIn K (.ref C_v) (.type "BaseException") = some true)
    (x4v : PySem.W.hasDictIn K C_v = true)
    (nCe : PySem.W.nsIn K mainGlobals "NoNeed" = some (some (.ref C_e)))
    (xLe : K.lookup C_e = some (excClassObj nm_e q_e C_e N_e bs_e [.ref S_e, .type "ValueError", .type "Exception", .type "BaseException", .type "object"] true sn_e sub_e ab_e col_e dd_e u0_e u1_e u2_e u3_e u5_e "ValueError.__new__"))
    (x5e : PySem.W.findIn K (.ref C_e) "__setattr__" = some (some (.builtin "object.__setattr__")))
    (x6e : PySem.W.typeIn K (.ref C_e) = some (.type "type"))
    (x7e : PySem.W.keepIn K (.ref C_e) = true)
    (iIe : PySem.W.findIn K (.ref C_e) "__init__" = some (some (.ref fI_e)))
    (tIe : PySem.W.typeIn K (.ref fI_e) = some (.type "function"))
    (nTe : PySem.W.findIn K (.ref C_e) "told" = some none)
    (lIe : K.lookup fI_e = some ⟨ocI_e, odI_e, .func (PySem.W.fnOf "__init__" "NoNeed.__init__" (defArgs (inClass (top 11) 0)) (defBody (inClass (top 11) 0)) (defScope (inClass (top 11) 0)) .none kVI_e dcI_e pmI_e anI_e cdI_e ctI_e), slI_e⟩)
    (cIe : PySem.W.codeIn K cdI_e "NoNeed.__init__" = true)
    (kIe : PySem.W.keepIn K (.ref fI_e) = true)
    (x1e : PySem.W.findIn K (.ref C_e) "__getattribute__" = some (some (.builtin "BaseException.__getattribute__")))
    (x2e : PySem.W.findIn K (.ref C_e) "__getattr__" = some none)
    (x3e : PySem.W.subIn K (.ref C_e) (.type "BaseException") = some true)
    (x4e : PySem.W.hasDictIn K C_e = true)
    (nCq : PySem.W.nsIn K mainGlobals "NoPast" = some (some (.ref C_q)))
    (x3q : PySem.W.subIn K (.ref C_q) (.type "BaseException") = some true)
    (x4q : PySem.W.hasDictIn K C_q = true)
    (x6q : PySem.W.typeIn K (.ref C_q) = some (.type "type"))
    (nCc : PySem.W.nsIn K mainGlobals "NoChange" = some (some (.ref C_c)))
    (x3c : PySem.W.subIn K (.ref C_c) (.type "BaseException") = some true)
    (x4c : PySem.W.hasDictIn K C_c = true)
    (x6c : PySem.W.typeIn K (.ref C_c) = some (.type "type"))
    (nCb : PySem.W.nsIn K mainGlobals "NothingBack" = some (some (.ref C_b)))
    (x3b : PySem.W.subIn K (.ref C_b) (.type "BaseException") = some true)
    (x4b : PySem.W.hasDictIn K C_b = true)
    (x6b : PySem.W.typeIn K (.ref C_b) = some (.type "type"))
    (nCk : PySem.W.nsIn K mainGlobals "NoCopies" = some (some (.ref C_k)))
    (x3k : PySem.W.subIn K (.ref C_k) (.type "BaseException") = some true)
    (x4k : PySem.W.hasDictIn K C_k = true)
    (x6k : PySem.W.typeIn K (.ref C_k) = some (.type "type"))
    (nCr0 : PySem.W.nsIn K mainGlobals "NoChances" = some (some (.ref C_r0)))
    (nCr1 : PySem.W.nsIn K mainGlobals "NoEdit" = some (some (.ref C_r1)))
    (nCr2 : PySem.W.nsIn K mainGlobals "NoKey" = some (some (.ref C_r2)))
    (nCr3 : PySem.W.nsIn K mainGlobals "NoName" = some (some (.ref C_r3)))
    (nCr4 : PySem.W.nsIn K mainGlobals "NoMoment" = some (some (.ref C_r4)))
    (nCr5 : PySem.W.nsIn K mainGlobals "TooMany" = some (some (.ref C_r5)))
    (snn : PySem.W.subIn K (.ref C_n) (.ref C_n) = some true)
    (spn : PySem.W.subIn K (.ref C_p) (.ref C_n) = some false)
    (svn : PySem.W.subIn K (.ref C_v) (.ref C_n) = some false)
    (sen : PySem.W.subIn K (.ref C_e) (.ref C_n) = some false)
    (spp : PySem.W.subIn K (.ref C_p) (.ref C_p) = some true)
    (svp : PySem.W.subIn K (.ref C_v) (.ref C_p) = some false)
    (sep : PySem.W.subIn K (.ref C_e) (.ref C_p) = some false)
    (svv : PySem.W.subIn K (.ref C_v) (.ref C_v) = some true)
    (sev : PySem.W.subIn K (.ref C_e) (.ref C_v) = some false)
    (see : PySem.W.subIn K (.ref C_e) (.ref C_e) = some true)
    (spq : PySem.W.subIn K (.ref C_p) (.ref C_q) = some false)
    (svq : PySem.W.subIn K (.ref C_v) (.ref C_q) = some false)
    (seq : PySem.W.subIn K (.ref C_e) (.ref C_q) = some false)
    (svc : PySem.W.subIn K (.ref C_v) (.ref C_c) = some false)
    (sec : PySem.W.subIn K (.ref C_e) (.ref C_c) = some false)
    (svb : PySem.W.subIn K (.ref C_v) (.ref C_b) = some false)
    (seb : PySem.W.subIn K (.ref C_e) (.ref C_b) = some false)
    (svk : PySem.W.subIn K (.ref C_v) (.ref C_k) = some false)
    (sek : PySem.W.subIn K (.ref C_e) (.ref C_k) = some false) : LawM l w K mg fa h 10 (fun cs => spLaw K (tbOf cs)) := by
  obtain ⟨f0, fd0, n0_, F0⟩ := A0
  obtain ⟨f1, fd1, n1_, F1⟩ := A1
  obtain ⟨f2, fd2, n2_, F2⟩ := A2
  obtain ⟨f3, fd3, n3_, F3⟩ := A3
  obtain ⟨f4, fd4, n4_, F4⟩ := A4
  obtain ⟨f5, fd5, n5_, F5⟩ := A5
  obtain ⟨f6, fd6, n6_, F6⟩ := A6
  obtain ⟨f7, fd7, n7_, F7⟩ := A7
  obtain ⟨f8, fd8, n8_, F8⟩ := A8
  obtain ⟨f9, fd9, n9_, F9⟩ := A9
  obtain ⟨f10, fd10, n10_, F10⟩ := A10
  obtain ⟨f11, fd11, n11_, F11⟩ := A11
  obtain ⟨f12, fd12, n12_, F12⟩ := A12
  obtain ⟨f13, fd13, n13_, F13⟩ := A13
  obtain ⟨f14, fd14, n14_, F14⟩ := A14
  obtain ⟨f15, fd15, n15_, F15⟩ := A15
  obtain ⟨f16, fd16, n16_, F16⟩ := A16
  obtain ⟨f17, fd17, n17_, F17⟩ := A17
  obtain ⟨f18, fd18, n18_, F18⟩ := A18
  obtain ⟨f19, fd19, n19_, F19⟩ := A19
  obtain ⟨f20, fd20, n20_, F20⟩ := A20
  obtain ⟨f21, fd21, n21_, F21⟩ := A21
  obtain ⟨f22, fd22, n22_, F22⟩ := A22
  obtain ⟨f23, fd23, n23_, F23⟩ := A23
  obtain ⟨f24, fd24, n24_, F24⟩ := A24
  obtain ⟨f25, fd25, n25_, F25⟩ := A25
  obtain ⟨f26, fd26, n26_, F26⟩ := A26
  obtain ⟨f27, fd27, n27_, F27⟩ := A27
  obtain ⟨f28, fd28, n28_, F28⟩ := A28
  have M0 := PySem.W.mg_of X G n0_
  have b0 := F0.binds (ps := ["value"]) fun _ _ _ _ _ _ us hl => match us, hl with | [_], _ => rfl
  have M1 := PySem.W.mg_of X G n1_
  have b1 := F1.binds (ps := ["value", "least", "most"]) fun _ _ _ _ _ _ us hl => match us, hl with | [_, _, _], _ => rfl
  have M2 := PySem.W.mg_of X G n2_
  have b2 := F2.binds (ps := ["value", "count"]) fun _ _ _ _ _ _ us hl => match us, hl with | [_, _], _ => rfl
  have M3 := PySem.W.mg_of X G n3_
  have b3 := F3.binds (ps := ["lot", "count"]) fun _ _ _ _ _ _ us hl => match us, hl with | [_, _], _ => rfl
  have M4 := PySem.W.mg_of X G n4_
  have b4 := F4.binds (ps := ["value"]) fun _ _ _ _ _ _ us hl => match us, hl with | [_], _ => rfl
  have M5 := PySem.W.mg_of X G n5_
  have b5 := F5.binds (ps := ["votes", "need", "lot"]) fun _ _ _ _ _ _ us hl => match us, hl with | [_, _, _], _ => rfl
  have M6 := PySem.W.mg_of X G n6_
  have b6 := F6.binds (ps := ["votes", "need", "unruly", "lot"]) fun _ _ _ _ _ _ us hl => match us, hl with | [_, _, _, _], _ => rfl
  have M7 := PySem.W.mg_of X G n7_
  have b7 := F7.binds (ps := ["votes", "need", "unruly"]) fun _ _ _ _ _ _ us hl => match us, hl with | [_, _, _], _ => rfl
  have M8 := PySem.W.mg_of X G n8_
  have b8 := F8.binds (ps := ["votes", "need"]) fun _ _ _ _ _ _ us hl => match us, hl with | [_, _], _ => rfl
  have M9 := PySem.W.mg_of X G n9_
  have b9 := F9.binds (ps := ["votes", "need"]) fun _ _ _ _ _ _ us hl => match us, hl with | [_, _], _ => rfl
  have M10 := PySem.W.mg_of X G n10_
  have b10 := F10.binds (ps := ["unruly", "count"]) fun _ _ _ _ _ _ us hl => match us, hl with | [_, _], _ => rfl
  have M11 := PySem.W.mg_of X G n11_
  have b11 := F11.binds (ps := ["votes", "lot"]) fun _ _ _ _ _ _ us hl => match us, hl with | [_, _], _ => rfl
  have M12 := PySem.W.mg_of X G n12_
  have b12 := F12.binds (ps := ["count"]) fun _ _ _ _ _ _ us hl => match us, hl with | [_], _ => rfl
  have M13 := PySem.W.mg_of X G n13_
  have b13 := F13.binds (ps := ["votes", "unruly", "lot"]) fun _ _ _ _ _ _ us hl => match us, hl with | [_, _, _], _ => rfl
  have M14 := PySem.W.mg_of X G n14_
  have b14 := F14.binds (ps := ["votes", "need", "unruly", "lot"]) fun _ _ _ _ _ _ us hl => match us, hl with | [_, _, _, _], _ => rfl
  have M15 := PySem.W.mg_of X G n15_
  have b15 := F15.binds (ps := ["_law_script", "_law_k"]) fun _ _ _ _ _ _ us hl => match us, hl with | [_, _], _ => rfl
  have M16 := PySem.W.mg_of X G n16_
  have b16 := F16.binds (ps := ["_law_source", "_law_top"]) fun _ _ _ _ _ _ us hl => match us, hl with | [_, _], _ => rfl
  have M17 := PySem.W.mg_of X G n17_
  have b17 := F17.binds (ps := ["_law_source", "_law_things"]) fun _ _ _ _ _ _ us hl => match us, hl with | [_, _], _ => rfl
  have M18 := PySem.W.mg_of X G n18_
  have b18 := F18.binds (ps := ["_law_script"]) fun _ _ _ _ _ _ us hl => match us, hl with | [_], _ => rfl
  have M19 := PySem.W.mg_of X G n19_
  have b19 := F19.binds (ps := ["_law_many"]) fun _ _ _ _ _ _ us hl => match us, hl with | [_], _ => rfl
  have M20 := PySem.W.mg_of X G n20_
  have b20 := F20.binds (ps := ["_law_lots"]) fun _ _ _ _ _ _ us hl => match us, hl with | [_], _ => rfl
  have M21 := PySem.W.mg_of X G n21_
  have b21 := F21.binds (ps := ["_law_call"]) fun _ _ _ _ _ _ us hl => match us, hl with | [_], _ => rfl
  have M22 := PySem.W.mg_of X G n22_
  have b22 := F22.binds (ps := ["_law_source", "_law_many"]) fun _ _ _ _ _ _ us hl => match us, hl with | [_, _], _ => rfl
  have M23 := PySem.W.mg_of X G n23_
  have b23 := F23.binds (ps := ["_law_votes_here", "_law_lot"]) fun _ _ _ _ _ _ us hl => match us, hl with | [_, _], _ => rfl
  have M24 := PySem.W.mg_of X G n24_
  have b24 := F24.binds (ps := ["_law_votes_here", "_law_lot", "_law_unruly_here"]) fun _ _ _ _ _ _ us hl => match us, hl with | [_, _, _], _ => rfl
  have M25 := PySem.W.mg_of X G n25_
  have b25 := F25.binds (ps := ["_law_votes_here", "_law_need_here", "_law_unruly_here", "_law_lot"]) fun _ _ _ _ _ _ us hl => match us, hl with | [_, _, _, _], _ => rfl
  have M26 := PySem.W.mg_of X G n26_
  have b26 := F26.binds (ps := ["_law_source", "_law_most"]) fun _ _ _ _ _ _ us hl => match us, hl with | [_, _], _ => rfl
  have M27 := PySem.W.mg_of X G n27_
  have b27 := F27.binds (ps := ["_law_lot", "_law_other", "_law_unruly_here"]) fun _ _ _ _ _ _ us hl => match us, hl with | [_, _, _], _ => rfl
  have M28 := PySem.W.mg_of X G n28_
  have b28 := F28.binds (ps := ["_law_script"]) fun _ _ _ _ _ _ us hl => match us, hl with | [_], _ => rfl
  have e := hfa.symm.trans M28
  cases e
  have T : Cst mg := ⟨(PySem.W.mg_none_of X G z_isinstance), (PySem.W.mg_none_of X G z_len), (PySem.W.mg_none_of X G z_int), (PySem.W.mg_none_of X G z_bool), (PySem.W.mg_none_of X G z_list), (PySem.W.mg_none_of X G z_tuple), (PySem.W.mg_none_of X G z_set), (PySem.W.mg_none_of X G z_range), (PySem.W.mg_none_of X G z_max), (PySem.W.mg_none_of X G z_min), (PySem.W.mg_none_of X G z_repr), (PySem.W.mg_none_of X G z_enumerate), (PySem.W.mg_none_of X G z_sorted), (PySem.W.mg_none_of X G z_all), (PySem.W.mg_none_of X G z_any), (PySem.W.mg_none_of X G z_zip), ⟨_, PySem.W.mg_of X G g_copies⟩, ⟨_, PySem.W.mg_of X G g_votes⟩, (PySem.W.mg_none_of X G z_sum)⟩
  have oxn : OexC K C_n := ⟨⟨_, _, _, _, _, _, _, _, _, _, _, _, _, _, _, xLn, by rfl⟩, x5n, x3n, x6n, x7n⟩
  have TEn : ErrT K mg "NoCount" C_n fI_n := ⟨oxn, PySem.W.mg_of X G nCn, iIn, tIn, nTn⟩
  have FIn := fun_mk (st := inClass (top 7) 0) lIn cIn kIn
  have bIn := FIn.binds (ps := ["self", "told"]) fun _ _ _ _ _ _ us hl => match us, hl with | [_, _], _ => rfl
  have ESn : ErrS K mg "NoCount" C_n := ⟨PySem.W.mg_of X G nCn, ⟨x1n, x2n, x3n, x4n⟩, nTn⟩
  have oxp : OexC K C_p := ⟨⟨_, _, _, _, _, _, _, _, _, _, _, _, _, _, _, xLp, by rfl⟩, x5p, x3p, x6p, x7p⟩
  have TEp : ErrT K mg "NoLot" C_p fI_p := ⟨oxp, PySem.W.mg_of X G nCp, iIp, tIp, nTp⟩
  have FIp := fun_mk (st := inClass (top 9) 0) lIp cIp kIp
  have bIp := FIp.binds (ps := ["self", "told"]) fun _ _ _ _ _ _ us hl => match us, hl with | [_, _], _ => rfl
  have ESp : ErrS K mg "NoLot" C_p := ⟨PySem.W.mg_of X G nCp, ⟨x1p, x2p, x3p, x4p⟩, nTp⟩
  have oxv : OexC K C_v := ⟨⟨_, _, _, _, _, _, _, _, _, _, _, _, _, _, _, xLv, by rfl⟩, x5v, x3v, x6v, x7v⟩
  have TEv : ErrT K mg "NoVotes" C_v fI_v := ⟨oxv, PySem.W.mg_of X G nCv, iIv, tIv, nTv⟩
  have FIv := fun_mk (st := inClass (top 10) 0) lIv cIv kIv
  have bIv := FIv.binds (ps := ["self", "told"]) fun _ _ _ _ _ _ us hl => match us, hl with | [_, _], _ => rfl
  have ESv : ErrS K mg "NoVotes" C_v := ⟨PySem.W.mg_of X G nCv, ⟨x1v, x2v, x3v, x4v⟩, nTv⟩
  have oxe : OexC K C_e := ⟨⟨_, _, _, _, _, _, _, _, _, _, _, _, _, _, _, xLe, by rfl⟩, x5e, x3e, x6e, x7e⟩
  have TEe : ErrT K mg "NoNeed" C_e fI_e := ⟨oxe, PySem.W.mg_of X G nCe, iIe, tIe, nTe⟩
  have FIe := fun_mk (st := inClass (top 11) 0) lIe cIe kIe
  have bIe := FIe.binds (ps := ["self", "told"]) fun _ _ _ _ _ _ us hl => match us, hl with | [_, _], _ => rfl
  have ESe : ErrS K mg "NoNeed" C_e := ⟨PySem.W.mg_of X G nCe, ⟨x1e, x2e, x3e, x4e⟩, nTe⟩
  have S : Tri K mg ⟨C_n, C_p, C_v, C_e⟩ := ⟨ESn, ESp, ESv, ESe, PySem.W.exm_ref x3n x4n x6n snn, PySem.W.exm_ref x3n x4n x6n spn, PySem.W.exm_ref x3n x4n x6n svn, PySem.W.exm_ref x3n x4n x6n sen, PySem.W.exm_ref x3p x4p x6p spp, PySem.W.exm_ref x3p x4p x6p svp, PySem.W.exm_ref x3p x4p x6p sep, PySem.W.exm_ref x3v x4v x6v svv, PySem.W.exm_ref x3v x4v x6v sev, PySem.W.exm_ref x3e x4e x6e see, ⟨_, PySem.W.mg_of X G nCq, PySem.W.exm_ref x3q x4q x6q spq, PySem.W.exm_ref x3q x4q x6q svq, PySem.W.exm_ref x3q x4q x6q seq⟩, ⟨_, PySem.W.mg_of X G nCc, PySem.W.exm_ref x3c x4c x6c svc, PySem.W.exm_ref x3c x4c x6c sec⟩, ⟨_, PySem.W.mg_of X G nCb, PySem.W.exm_ref x3b x4b x6b svb, PySem.W.exm_ref x3b x4b x6b seb⟩, ⟨_, PySem.W.mg_of X G nCk, PySem.W.exm_ref x3k x4k x6k svk, PySem.W.exm_ref x3k x4k x6k sek⟩, ⟨_, PySem.W.mg_of X G nCr0⟩, ⟨_, PySem.W.mg_of X G nCr1⟩, ⟨_, PySem.W.mg_of X G nCr2⟩, ⟨_, PySem.W.mg_of X G nCr3⟩, ⟨_, PySem.W.mg_of X G nCr4⟩, ⟨_, PySem.W.mg_of X G nCr5⟩⟩
  obtain ⟨oc', od', kV', doc', pm', an', cdv', ct', osl', rfl, lk', hcd'⟩ := F28.ex
  have FL := fun_mk (st := sLaw) lk' hcd' F28.kp
  refine ⟨PySem.W.fnOf "law" "law" (defArgs sLaw) (defBody sLaw) (defScope sLaw) .none kV' doc' pm' an' cdv' ct', [(ct1, Pt1), (ct2, Pt2), (ct3, Pt3)], all3 tab1 tab2 tab3, all3 notK1 notK2 notK3, all3 (PySem.W.codeHd_of_K X hcd1) (PySem.W.codeHd_of_K X hcd2) (PySem.W.codeHd_of_K X hcd3), fun s v => .of_eq rfl, fun base _ _ TB => ?_⟩
  have Tb_ : tbOf [(ct1, Pt1), (ct2, Pt2), (ct3, Pt3)] = [(Pt1, lamA), (Pt2, lamH), (Pt3, lamR)] := tbX3
  show FnG l.prog w K mg base 10 _ _ _ (spLaw K (tbOf [(ct1, Pt1), (ct2, Pt2), (ct3, Pt3)]))
  rw [Tb_]
  have TB1 : LamX.TabB base mg ct1 Pt1 := TB (ct1, Pt1) hm1
  have TB2 : LamX.TabB base mg ct2 Pt2 := TB (ct2, Pt2) hm2
  have TB3 : LamX.TabB base mg ct3 Pt3 := TB (ct3, Pt3) hm3
  have MKn : Mak l.prog w K mg base "NoCount" C_n := ⟨fI_n, _, TEn, ok_init7 FIn, bIn⟩
  have MKp : Mak l.prog w K mg base "NoLot" C_p := ⟨fI_p, _, TEp, ok_init9 FIp, bIp⟩
  have MKv : Mak l.prog w K mg base "NoVotes" C_v := ⟨fI_v, _, TEv, ok_init10 FIv, bIv⟩
  have MKe : Mak l.prog w K mg base "NoNeed" C_e := ⟨fI_e, _, TEe, ok_init11 FIe, bIe⟩
  have D0 : Df l.prog w K mg base 1 "is_number" ["value"] spN := ⟨f0, fd0, ok_number F0 T, M0, F0.kp, b0⟩
  have D1 : Df l.prog w K mg base 2 "is_within" ["value", "least", "most"] spW := ⟨f1, fd1, ok_within F1 D0, M1, F1.kp, b1⟩
  have D2 : Df l.prog w K mg base 3 "is_lot" ["value", "count"] (spIsLot K) := ⟨f2, fd2, ok_islot F2 T D1, M2, F2.kp, b2⟩
  have D3 : DfX l.prog w K mg base 4 "check_lot" ["lot", "count"] (spCkLot K C_p) := ⟨f3, fd3, ok_cklot F3 MKp D2, M3, F3.kp, b3⟩
  have D4 : Df l.prog w K mg base 3 "is_votes" ["value"] (spIsV K) := ⟨f4, fd4, ok_isv F4 T D1, M4, F4.kp, b4⟩
  have D9 : DfX l.prog w K mg base 4 "check_votes" ["votes", "need"] (spCkV K C_v C_e) := ⟨f9, fd9, ok_ckv F9 T MKv MKe D1 D4, M9, F9.kp, b9⟩
  have D10 : DfX l.prog w K mg base 3 "check_unruly" ["unruly", "count"] (spCkU C_n) := ⟨f10, fd10, ok_cku F10 MKn D1, M10, F10.kp, b10⟩
  have D11 : Df l.prog w K mg base 1 "votes_of" ["votes", "lot"] spVof := ⟨f11, fd11, ok_vof F11 T, M11, F11.kp, b11⟩
  have DAL : Df l.prog w K mg base 3 "all_lots" ["copies"] (spParts [(Pt1, lamA), (Pt2, lamH), (Pt3, lamR)]) := ⟨ft1, _, ok_alots ⟨oct1, odt1, kVt1, dct1, pmt1, ant1, ctt1, slt1, rfl, lt1, ck1⟩ T TB1 hm1 (hu1 ne12 ne13), PySem.W.mg_of X G nt1, kk1, .all fun us hl => match us, hl with | [_], _ => rfl⟩
  have DHV : Df l.prog w K mg base 3 "_heaviest" psVUL (spHeavy [(Pt1, lamA), (Pt2, lamH), (Pt3, lamR)]) := ⟨ft2, _, ok_heavy ⟨oct2, odt2, kVt2, dct2, pmt2, ant2, ctt2, slt2, rfl, lt2, ck2⟩ T TB2 hm2 (hu2 ne12 ne23), PySem.W.mg_of X G nt2, kk2, .all fun us hl => match us, hl with | [_, _, _], _ => rfl⟩
  have D12 : Df l.prog w K mg base 4 "_lots_of" ["count"] (spLotsOf [(Pt1, lamA), (Pt2, lamH), (Pt3, lamR)]) := ⟨f12, fd12, ok_lotsof F12 T DAL, M12, F12.kp, b12⟩
  have D13 : Df l.prog w K mg base 4 "_sure_votes" ["votes", "unruly", "lot"] (spSure [(Pt1, lamA), (Pt2, lamH), (Pt3, lamR)]) := ⟨f13, fd13, ok_sure F13 D11 DHV, M13, F13.kp, b13⟩
  have D14 : Df l.prog w K mg base 5 "_has_enough" ["votes", "need", "unruly", "lot"] (spHasE [(Pt1, lamA), (Pt2, lamH), (Pt3, lamR)]) := ⟨f14, fd14, ok_hase F14 T D13, M14, F14.kp, b14⟩
  have D5 : DfX l.prog w K mg base 5 "is_write_lot" ["votes", "need", "lot"] (spIsW K C_v C_e C_p) := ⟨f5, fd5, ok_isw F5 T D9 D3 D11, M5, F5.kp, b5⟩
  have D6 : DfX l.prog w K mg base 6 "is_enough" ["votes", "need", "unruly", "lot"] (spIsE K [(Pt1, lamA), (Pt2, lamH), (Pt3, lamR)] C_v C_e C_n C_p) := ⟨f6, fd6, ok_ise F6 T D9 D3 D10 D14, M6, F6.kp, b6⟩
  have D7 : DfX l.prog w K mg base 6 "enough_lots" ["votes", "need", "unruly"] (spEs K [(Pt1, lamA), (Pt2, lamH), (Pt3, lamR)] C_v C_e C_n) := ⟨f7, fd7, ok_es F7 T D9 D10 D14 D12, M7, F7.kp, b7⟩
  have D8 : DfX l.prog w K mg base 5 "write_lots" ["votes", "need"] (spWs K [(Pt1, lamA), (Pt2, lamH), (Pt3, lamR)] C_v C_e) := ⟨f8, fd8, ok_ws F8 T D9 D11 D12, M8, F8.kp, b8⟩
  have D15 : Df l.prog w K mg base 1 "_law_pool" ["_law_script", "_law_k"] (spPool K) := ⟨f15, fd15, ok_pool F15 T, M15, F15.kp, b15⟩
  have D16 : Df l.prog w K mg base 1 "_law_take" ["_law_source", "_law_top"] spTake := ⟨f16, fd16, ok_take F16 T, M16, F16.kp, b16⟩
  have D17 : Df l.prog w K mg base 2 "_law_one" ["_law_source", "_law_things"] spOne := ⟨f17, fd17, ok_one F17 T D16, M17, F17.kp, b17⟩
  have D18 : Df l.prog w K mg base 1 "_law_rounds" ["_law_script"] (spRounds K) := ⟨f18, fd18, ok_rounds F18 T, M18, F18.kp, b18⟩
  have D19 : Df l.prog w K mg base 1 "_law_all_lots" ["_law_many"] spLAll := ⟨f19, fd19, ok_lall F19 T, M19, F19.kp, b19⟩
  have D20 : Df l.prog w K mg base 1 "_law_in_size" ["_law_lots"] spInS := ⟨f20, fd20, ok_ins F20 T, M20, F20.kp, b20⟩
  have D23 : Df l.prog w K mg base 1 "_law_sum" ["_law_votes_here", "_law_lot"] spLSum := ⟨f23, fd23, ok_lsum F23 T, M23, F23.kp, b23⟩
  have D24 : Df l.prog w K mg base 1 "_law_sure" ["_law_votes_here", "_law_lot", "_law_unruly_here"] spLSure := ⟨f24, fd24, ok_lsure F24 T, M24, F24.kp, b24⟩
  have D25 : Df l.prog w K mg base 2 "_law_is_enough" ["_law_votes_here", "_law_need_here", "_law_unruly_here", "_law_lot"] spLEn := ⟨f25, fd25, ok_len F25 T D24, M25, F25.kp, b25⟩
  have D27 : Df l.prog w K mg base 1 "_law_meets" ["_law_lot", "_law_other", "_law_unruly_here"] spMeets := ⟨f27, fd27, ok_meets F27 T, M27, F27.kp, b27⟩
  have D22 : Df l.prog w K mg base 3 "_law_votes" ["_law_source", "_law_many"] spLVotes := ⟨f22, fd22, ok_lvotes F22 T D16 D17, M22, F22.kp, b22⟩
  have D26 : Df l.prog w K mg base 4 "_law_case" ["_law_source", "_law_most"] spCase := ⟨f26, fd26, ok_case F26 T D16 D22, M26, F26.kp, b26⟩
  have DRF : DfG l.prog w K mg base 9 "_law_refuses" psRf (spRef [(Pt1, lamA), (Pt2, lamH), (Pt3, lamR)]) := ⟨ft3, _, ok_refuses (c := ⟨C_n, C_p, C_v, C_e⟩) ⟨oct3, odt3, kVt3, dct3, pmt3, ant3, ctt3, slt3, rfl, lt3, ck3⟩ T S TB3 hm3 (hu3 ne13 ne23) F21 M21 b21 D17 D4 D5 D6 D7, PySem.W.mg_of X G nt3, kk3, .all fun us hl => match us, hl with | [_, _, _, _, _], _ => rfl⟩
  exact ok_law (c := ⟨C_n, C_p, C_v, C_e⟩) FL T D15 D18 D26 D19 D20 D23 D25 D27 D4 D5 D6 D7 D8 DRF
end Pl

open PyProof.Rows PySem PySem.W in
set_option maxRecDepth 100001 in
set_option maxHeartbeats 0 in
theorem PySem.Challenge.cw_plainstore_k15_whole_votes_by_all_lots_holds : PySem.Challenge.rw_plainstore_k15_whole_votes_by_all_lots.Holds := by
  (w_on; o_law; k_head); (case hw => w_witness2)
  k_fill
  refine Pl.walkP (l := PySem.Challenge.rw_plainstore_k15_whole_votes_by_all_lots) rfl (by decide) rfl (fun w h Y => km_in_of Y) ?F
  case F =>
    intro w mg fa h Y KX G hmg
    refine' Pl.all_mk KX G hmg ?A0 ?A1 ?A2 ?A3 ?A4 ?A5 ?A6 ?A7 ?A8 ?A9 ?A10 ?A11 ?A12 ?A13 ?A14 ?A15 ?A16 ?A17 ?A18 ?A19 ?A20 ?A21 ?A22 ?A23 ?A24 ?A25 ?A26 ?A27 ?A28 ?z_isinstance ?z_len ?z_int ?z_bool ?z_list ?z_tuple ?z_set ?z_range ?z_max ?z_min ?z_repr ?z_enumerate ?z_sorted ?z_all ?z_any ?z_zip ?z_sum ?g_copies ?g_votes ?nt1 ?lt1 ?ck1 ?kk1 ?lc1 ?hP1 ?hcd1 ?notK1 ?tab1 ?nt2 ?lt2 ?ck2 ?kk2 ?lc2 ?hP2 ?hcd2 ?notK2 ?tab2 ?nt3 ?lt3 ?ck3 ?kk3 ?lc3 ?hP3 ?hcd3 ?notK3 ?tab3 ?ne12 ?ne13 ?ne23 ?nCn ?xLn ?x5n ?x6n ?x7n ?iIn ?tIn ?nTn ?lIn ?cIn ?kIn ?x1n ?x2n ?x3n ?x4n ?nCp ?xLp ?x5p ?x6p ?x7p ?iIp ?tIp ?nTp ?lIp ?cIp ?kIp ?x1p ?x2p ?x3p ?x4p ?nCv ?xLv ?x5v ?x6v ?x7v ?iIv ?tIv ?nTv ?lIv ?cIv ?kIv ?x1v ?x2v ?x3v ?x4v ?nCe ?xLe ?x5e ?x6e ?x7e ?iIe ?tIe ?nTe ?lIe ?cIe ?kIe ?x1e ?x2e ?x3e ?x4e ?nCq ?x3q ?x4q ?x6q ?nCc ?x3c ?x4c ?x6c ?nCb ?x3b ?x4b ?x6b ?nCk ?x3k ?x4k ?x6k ?nCr0 ?nCr1 ?nCr2 ?nCr3 ?nCr4 ?nCr5 ?snn ?spn ?svn ?sen ?spp ?svp ?sep ?svv ?sev ?see ?spq ?svq ?seq ?svc ?sec ?svb ?seb ?svk ?sek
    (case A0 => (refine' ⟨_, _, ?a, L2.fun_mk ?l ?c ?k⟩; (case a => k_is); (case l => k_is); (case c => k_is); (case k => k_is)))
    (case A1 => (refine' ⟨_, _, ?a, L2.fun_mk ?l ?c ?k⟩; (case a => k_is); (case l => k_is); (case c => k_is); (case k => k_is)))
    (case A2 => (refine' ⟨_, _, ?a, L2.fun_mk ?l ?c ?k⟩; (case a => k_is); (case l => k_is); (case c => k_is); (case k => k_is)))
    (case A3 => (refine' ⟨_, _, ?a, L2.fun_mk ?l ?c ?k⟩; (case a => k_is); (case l => k_is); (case c => k_is); (case k => k_is)))
    (case A4 => (refine' ⟨_, _, ?a, L2.fun_mk ?l ?c ?k⟩; (case a => k_is); (case l => k_is); (case c => k_is); (case k => k_is)))
    (case A5 => (refine' ⟨_, _, ?a, L2.fun_mk ?l ?c ?k⟩; (case a => k_is); (case l => k_is); (case c => k_is); (case k => k_is)))
    (case A6 => (refine' ⟨_, _, ?a, L2.fun_mk ?l ?c ?k⟩; (case a => k_is); (case l => k_is); (case c => k_is); (case k => k_is)))
    (case A7 => (refine' ⟨_, _, ?a, L2.fun_mk ?l ?c ?k⟩; (case a => k_is); (case l => k_is); (case c => k_is); (case k => k_is)))
    (case A8 => (refine' ⟨_, _, ?a, L2.fun_mk ?l ?c ?k⟩; (case a => k_is); (case l => k_is); (case c => k_is); (case k => k_is)))
    (case A9 => (refine' ⟨_, _, ?a, L2.fun_mk ?l ?c ?k⟩; (case a => k_is); (case l => k_is); (case c => k_is); (case k => k_is)))
    (case A10 => (refine' ⟨_, _, ?a, L2.fun_mk ?l ?c ?k⟩; (case a => k_is); (case l => k_is); (case c => k_is); (case k => k_is)))
    (case A11 => (refine' ⟨_, _, ?a, L2.fun_mk ?l ?c ?k⟩; (case a => k_is); (case l => k_is); (case c => k_is); (case k => k_is)))
    (case A12 => (refine' ⟨_, _, ?a, L2.fun_mk ?l ?c ?k⟩; (case a => k_is); (case l => k_is); (case c => k_is); (case k => k_is)))
    (case A13 => (refine' ⟨_, _, ?a, L2.fun_mk ?l ?c ?k⟩; (case a => k_is); (case l => k_is); (case c => k_is); (case k => k_is)))
    (case A14 => (refine' ⟨_, _, ?a, L2.fun_mk ?l ?c ?k⟩; (case a => k_is); (case l => k_is); (case c => k_is); (case k => k_is)))
    (case A15 => (refine' ⟨_, _, ?a, L2.fun_mk ?l ?c ?k⟩; (case a => k_is); (case l => k_is); (case c => k_is); (case k => k_is)))
    (case A16 => (refine' ⟨_, _, ?a, L2.fun_mk ?l ?c ?k⟩; (case a => k_is); (case l => k_is); (case c => k_is); (case k => k_is)))
    (case A17 => (refine' ⟨_, _, ?a, L2.fun_mk ?l ?c ?k⟩; (case a => k_is); (case l => k_is); (case c => k_is); (case k => k_is)))
    (case A18 => (refine' ⟨_, _, ?a, L2.fun_mk ?l ?c ?k⟩; (case a => k_is); (case l => k_is); (case c => k_is); (case k => k_is)))
    (case A19 => (refine' ⟨_, _, ?a, L2.fun_mk ?l ?c ?k⟩; (case a => k_is); (case l => k_is); (case c => k_is); (case k => k_is)))
    (case A20 => (refine' ⟨_, _, ?a, L2.fun_mk ?l ?c ?k⟩; (case a => k_is); (case l => k_is); (case c => k_is); (case k => k_is)))
    (case A21 => (refine' ⟨_, _, ?a, L2.fun_mk ?l ?c ?k⟩; (case a => k_is); (case l => k_is); (case c => k_is); (case k => k_is)))
    (case A22 => (refine' ⟨_, _, ?a, L2.fun_mk ?l ?c ?k⟩; (case a => k_is); (case l => k_is); (case c => k_is); (case k => k_is)))
    (case A23 => (refine' ⟨_, _, ?a, L2.fun_mk ?l ?c ?k⟩; (case a => k_is); (case l => k_is); (case c => k_is); (case k => k_is)))
    (case A24 => (refine' ⟨_, _, ?a, L2.fun_mk ?l ?c ?k⟩; (case a => k_is); (case l => k_is); (case c => k_is); (case k => k_is)))
    (case A25 => (refine' ⟨_, _, ?a, L2.fun_mk ?l ?c ?k⟩; (case a => k_is); (case l => k_is); (case c => k_is); (case k => k_is)))
    (case A26 => (refine' ⟨_, _, ?a, L2.fun_mk ?l ?c ?k⟩; (case a => k_is); (case l => k_is); (case c => k_is); (case k => k_is)))
    (case A27 => (refine' ⟨_, _, ?a, L2.fun_mk ?l ?c ?k⟩; (case a => k_is); (case l => k_is); (case c => k_is); (case k => k_is)))
    (case A28 => (refine' ⟨_, _, ?a, L2.fun_mk ?l ?c ?k⟩; (case a => k_is); (case l => k_is); (case c => k_is); (case k => k_is)))
    (case z_isinstance => k_is)
    (case z_len => k_is)
    (case z_int => k_is)
    (case z_bool => k_is)
    (case z_list => k_is)
    (case z_tuple => k_is)
    (case z_set => k_is)
    (case z_range => k_is)
    (case z_max => k_is)
    (case z_min => k_is)
    (case z_repr => k_is)
    (case z_enumerate => k_is)
    (case z_sorted => k_is)
    (case z_all => k_is)
    (case z_any => k_is)
    (case z_zip => k_is)
    (case z_sum => k_is)
    (case g_copies => k_is)
    (case g_votes => k_is)
    (case nt1 => k_is)
    (case lt1 => k_is)
    (case ck1 => k_is)
    (case kk1 => k_is)
    (case lc1 => k_is)
    (case hP1 => rfl)
    (case hcd1 => kernel_rfl)
    (case notK1 => kernel_rfl)
    (case tab1 => exact PySem.W.km_tabs_of Y _ (by simp))
    (case nt2 => k_is)
    (case lt2 => k_is)
    (case ck2 => k_is)
    (case kk2 => k_is)
    (case lc2 => k_is)
    (case hP2 => rfl)
    (case hcd2 => kernel_rfl)
    (case notK2 => kernel_rfl)
    (case tab2 => exact PySem.W.km_tabs_of Y _ (by simp))
    (case nt3 => k_is)
    (case lt3 => k_is)
    (case ck3 => k_is)
    (case kk3 => k_is)
    (case lc3 => k_is)
    (case hP3 => rfl)
    (case hcd3 => kernel_rfl)
    (case notK3 => kernel_rfl)
    (case tab3 => exact PySem.W.km_tabs_of Y _ (by simp))
    (case ne12 => decide)
    (case ne13 => decide)
    (case ne23 => decide)
    (case nCn => k_is)
    (case xLn => k_is)
    (case x5n => k_is)
    (case x6n => k_is)
    (case x7n => k_is)
    (case iIn => k_is)
    (case tIn => k_is)
    (case nTn => k_is)
    (case lIn => k_is)
    (case cIn => k_is)
    (case kIn => k_is)
    (case x1n => k_is)
    (case x2n => k_is)
    (case x3n => k_is)
    (case x4n => k_is)
    (case nCp => k_is)
    (case xLp => k_is)
    (case x5p => k_is)
    (case x6p => k_is)
    (case x7p => k_is)
    (case iIp => k_is)
    (case tIp => k_is)
    (case nTp => k_is)
    (case lIp => k_is)
    (case cIp => k_is)
    (case kIp => k_is)
    (case x1p => k_is)
    (case x2p => k_is)
    (case x3p => k_is)
    (case x4p => k_is)
    (case nCv => k_is)
    (case xLv => k_is)
    (case x5v => k_is)
    (case x6v => k_is)
    (case x7v => k_is)
    (case iIv => k_is)
    (case tIv => k_is)
    (case nTv => k_is)
    (case lIv => k_is)
    (case cIv => k_is)
    (case kIv => k_is)
    (case x1v => k_is)
    (case x2v => k_is)
    (case x3v => k_is)
    (case x4v => k_is)
    (case nCe => k_is)
    (case xLe => k_is)
    (case x5e => k_is)
    (case x6e => k_is)
    (case x7e => k_is)
    (case iIe => k_is)
    (case tIe => k_is)
    (case nTe => k_is)
    (case lIe => k_is)
    (case cIe => k_is)
    (case kIe => k_is)
    (case x1e => k_is)
    (case x2e => k_is)
    (case x3e => k_is)
    (case x4e => k_is)
    (case nCq => k_is)
    (case x3q => k_is)
    (case x4q => k_is)
    (case x6q => k_is)
    (case nCc => k_is)
    (case x3c => k_is)
    (case x4c => k_is)
    (case x6c => k_is)
    (case nCb => k_is)
    (case x3b => k_is)
    (case x4b => k_is)
    (case x6b => k_is)
    (case nCk => k_is)
    (case x3k => k_is)
    (case x4k => k_is)
    (case x6k => k_is)
    (case nCr0 => k_is)
    (case nCr1 => k_is)
    (case nCr2 => k_is)
    (case nCr3 => k_is)
    (case nCr4 => k_is)
    (case nCr5 => k_is)
    (case snn => k_is)
    (case spn => k_is)
    (case svn => k_is)
    (case sen => k_is)
    (case spp => k_is)
    (case svp => k_is)
    (case sep => k_is)
    (case svv => k_is)
    (case sev => k_is)
    (case see => k_is)
    (case spq => k_is)
    (case svq => k_is)
    (case seq => k_is)
    (case svc => k_is)
    (case sec => k_is)
    (case svb => k_is)
    (case seb => k_is)
    (case svk => k_is)
    (case sek => k_is)

