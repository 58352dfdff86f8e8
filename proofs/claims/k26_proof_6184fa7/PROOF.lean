import PyProof.Rows.All
import Wide.All
import OpenK.AllK
import Wide.FinOn
import HandS.ForMost
import PyProof.ReprLen
import PyProof.ReprRoads
import PyProof.WalksMore
import PyProof.CollectIter
import KE.SortUse
import HandS.IsInst
import HandS.TupAny
import HandS.TupMul
import HandS.TupSets
import HandS.Conv
import HandS.Style
import HandS.ExcInit
import HandS.ExcIs
import HandS.ExcField
import HandS.CallLocal
import HandS.CallSlots
import HandS.TryOnly
import HandS.ExcOwn
import HandS.WordsExc
import HandS.More
import HandS.NoneIn
import HandS.Defaults
import HandS.Lambda
import HandS.TryMany
import HandS.EndTab
import KE.KNestM
import HandS.Walk
import KE.GoesEnum
import KE.SortKeyHeap
import KE.LtSeq
import KE.SortData
import HandS.SortKw
import PyProof.Rows.TupSub
import HandS.Zip
import HandS.Sort
import PySem.Challenge.RW_plainstore_k26_whole_told_lots_and_bars
set_option Elab.async false
set_option linter.all false
set_option maxRecDepth 100000
set_option maxHeartbeats 8000000
namespace Pl
open L2 PySem PySem.Spec PyProof.Rows
/-- what a tracked tuple's items read as: known to its object (which has no dict), or longer than four, or (k = false) any -/
inductive TupAt (H : Hp) : Bool → Addr → List V → Prop
  | frz {k : Bool} {a : Addr} {o : Obj} {xs : List V} (h : H a = some (.frz o (.tup xs))) (d : o.dict = none) : TupAt H k a xs
  | big {k : Bool} {a : Addr} {xs : List V} (h : H a = some (.tup xs)) (l : 4 < xs.length) : TupAt H k a xs
  | any {a : Addr} {xs : List V} (h : H a = some (.tup xs)) : TupAt H false a xs
mutual
/-- m: dicts (true) or lists (false) stand in it; z: an address that it keeps away from; k: its own tuple is known -/
inductive Dv (m : Bool) (z : Addr) (H : Hp) : Bool → V → PyData → Prop
  | non {k : Bool} : Dv m z H k .non .none
  | bl {k : Bool} (b : Bool) : Dv m z H k (.bl b) (.bool b)
  | int {k : Bool} (i : Int) : Dv m z H k (.int i) (.int i)
  | str {k : Bool} (x : Str) : Dv m z H k (.str x) (.str x)
  | lst {k : Bool} {a : Addr} {xs : List V} {ds : List PyData} (hm : m = false) (ne : a ≠ z) (h : H a = some (.lst xs)) (t : DvL m z H false xs ds) : Dv m z H k (.ref a) (.list ds)
  | tup {k : Bool} {a : Addr} {xs : List V} {ds : List PyData} (ne : a ≠ z) (h : TupAt H k a xs) (t : DvL m z H true xs ds) : Dv m z H k (.ref a) (.tuple ds)
  | dct {k : Bool} {a : Addr} (hm : m = true) (ne : a ≠ z) (h : H a = some (.dK [])) : Dv m z H k (.ref a) (.dict [])
inductive DvL (m : Bool) (z : Addr) (H : Hp) : Bool → List V → List PyData → Prop
  | nil {k : Bool} : DvL m z H k [] []
  | cons {k : Bool} {v : V} {vs : List V} {d : PyData} {ds : List PyData} (a : Dv m z H k v d) (t : DvL m z H k vs ds) : DvL m z H k (v :: vs) (d :: ds)
end
theorem TupAt.weak {H : Hp} {k : Bool} {a : Addr} {xs : List V} (h : TupAt H k a xs) : TupAt H false a xs := by
  cases h with
  | frz h d => exact .frz h d
  | big h l => exact .any h
  | any h => exact .any h
theorem TupAt.sq {K : PySem.W.Frag} {H : Hp} {k : Bool} {a : Addr} {xs : List V} (h : TupAt H k a xs) : SqT K H a xs := by
  cases h with
  | frz h d => exact .inl (.inr ⟨_, h⟩)
  | big h l => exact .inl (.inl h)
  | any h => exact .inl (.inl h)
/-- (any object) -/
def NoT (_ : HO) : Prop := True
theorem NoT.lst {xs : List V} : NoT (.lst xs) := trivial
theorem NoT.tup {xs : List V} : NoT (.tup xs) := trivial
theorem NoT.dK {kvs : List (Key × V)} : NoT (.dK kvs) := trivial
theorem NoT.frz {o : Obj} {u : HO} : NoT (.frz o u) := trivial
/-- all but z stands -/
def But (z : Addr) (H G : Hp) : Prop := ∀ b o, b ≠ z → NoT o → H b = some o → G b = some o
/-- all stands -/
def Sam (H G : Hp) : Prop := ∀ b o, NoT o → H b = some o → G b = some o
theorem Sam.refl (H : Hp) : Sam H H := fun _ _ _ e => e
theorem Sam.of {H G : Hp} (s : Same H G) : Sam H G := fun b o _ e => s b o e
theorem Sam.trans {H G F : Hp} (a : Sam H G) (b : Sam G F) : Sam H F := fun c o n e => b c o n (a c o n e)
theorem Sam.but {H G : Hp} {z : Addr} (s : Sam H G) : But z H G := fun b o _ n e => s b o n e
theorem But.of {H G : Hp} {z : Addr} (s : Same H G) : But z H G := fun b o _ _ e => s b o e
theorem But.refl (z : Addr) (H : Hp) : But z H H := fun _ _ _ _ e => e
theorem But.trans {z : Addr} {H G F : Hp} (a : But z H G) (b : But z G F) : But z H F := fun c o n t e => b c o n t (a c o n t e)
theorem But.upd {z : Addr} {H : Hp} {o : HO} : But z H (L2.upd H z o) := fun b u n _ e => (upd_ne n).trans e
theorem But.new {z p : Addr} {H : Hp} {o : HO} (f : H p = none) : But z H (L2.upd H p o) := fun b u _ _ e => (upd_ne (ne_of_none e f)).trans e
theorem same_new {p : Addr} {H : Hp} {o : HO} (f : H p = none) : Same H (L2.upd H p o) := fun b u e => (upd_ne (ne_of_none e f)).trans e
theorem TupAt.to {H G : Hp} {z : Addr} {k : Bool} {a : Addr} {xs : List V} (e : But z H G) (ne : a ≠ z) (h : TupAt H k a xs) : TupAt G k a xs := by
  cases h with
  | frz h d => exact .frz (e _ _ ne NoT.frz h) d
  | big h l => exact .big (e _ _ ne NoT.tup h) l
  | any h => exact .any (e _ _ ne NoT.tup h)
section
variable {m : Bool} {z : Addr} {H G : Hp}
mutual
theorem Dv.to (e : But z H G) : ∀ (k : Bool) (d : PyData) (v : V), Dv m z H k v d → Dv m z G k v d
  | _, .none, _, h => by cases h; exact .non
  | _, .bool _, _, h => by cases h; exact .bl _
  | _, .int _, _, h => by cases h; exact .int _
  | _, .str _, _, h => by cases h; exact .str _
  | _, .list ds, _, h => by
    cases h with
    | lst hm ne h t => exact .lst hm ne (e _ _ ne NoT.lst h) (DvL.to e _ ds _ t)
  | _, .tuple ds, _, h => by
    cases h with
    | tup ne h t => exact .tup ne (h.to e ne) (DvL.to e _ ds _ t)
  | _, .dict _, _, h => by
    cases h with
    | dct hm ne h => exact .dct hm ne (e _ _ ne NoT.dK h)
theorem DvL.to (e : But z H G) : ∀ (k : Bool) (ds : List PyData) (vs : List V), DvL m z H k vs ds → DvL m z G k vs ds
  | _, [], _, h => by cases h; exact .nil
  | _, d :: ds, _, h => by
    cases h with
    | cons a t => exact .cons (Dv.to e _ d _ a) (DvL.to e _ ds _ t)
end
theorem Dv.weak {k : Bool} {v : V} {d : PyData} (h : Dv m z H k v d) : Dv m z H false v d := by
  cases h with
  | non => exact .non
  | bl b => exact .bl b
  | int i => exact .int i
  | str x => exact .str x
  | lst hm ne h t => exact .lst hm ne h t
  | tup ne h t => exact .tup ne h.weak t
  | dct hm ne h => exact .dct hm ne h
theorem DvL.weak {k : Bool} : ∀ {vs : List V} {ds : List PyData}, DvL m z H k vs ds → DvL m z H false vs ds
  | _, _, .nil => .nil
  | _, _, .cons a t => .cons a.weak t.weak
theorem DvL.len {k : Bool} : ∀ {vs : List V} {ds : List PyData}, DvL m z H k vs ds → vs.length = ds.length
  | _, _, .nil => rfl
  | _, _, .cons _ t => congrArg Nat.succ t.len
theorem DvL.at {k : Bool} : ∀ {vs : List V} {ds : List PyData} {i : Nat} {d : PyData}, DvL m z H k vs ds → ds[i]? = some d → ∃ v, vs[i]? = some v ∧ Dv m z H k v d
  | _, _, _, _, .nil, e => absurd e (by simp)
  | _, _, 0, _, .cons a _, e => by simp at e; subst e; exact ⟨_, rfl, a⟩
  | _, _, i + 1, _, .cons _ t, e => by
    obtain ⟨v, h1, h2⟩ := DvL.at (i := i) t (by simpa using e)
    exact ⟨v, by simpa using h1, h2⟩
theorem DvL.at' {k : Bool} : ∀ {vs : List V} {ds : List PyData} {i : Nat} {v : V}, DvL m z H k vs ds → vs[i]? = some v → ∃ d, ds[i]? = some d ∧ Dv m z H k v d
  | _, _, _, _, .nil, e => absurd e (by simp)
  | _, _, 0, _, .cons a _, e => by simp at e; subst e; exact ⟨_, rfl, a⟩
  | _, _, i + 1, _, .cons _ t, e => by
    obtain ⟨v, h1, h2⟩ := DvL.at' (i := i) t (by simpa using e)
    exact ⟨v, by simpa using h1, h2⟩
theorem DvL.app {k : Bool} : ∀ {vs ws : List V} {ds es : List PyData}, DvL m z H k vs ds → DvL m z H k ws es → DvL m z H k (vs ++ ws) (ds ++ es)
  | _, _, _, _, .nil, h => h
  | _, _, _, _, .cons a t, h => .cons a (t.app h)
theorem DvL.take {k : Bool} : ∀ {vs : List V} {ds : List PyData} (n : Nat), DvL m z H k vs ds → DvL m z H k (vs.take n) (ds.take n)
  | _, _, 0, _ => by rw [List.take_zero, List.take_zero]; exact .nil
  | _, _, _ + 1, .nil => .nil
  | _, _, n + 1, .cons a t => .cons a (t.take n)
theorem DvL.drop {k : Bool} : ∀ {vs : List V} {ds : List PyData} (n : Nat), DvL m z H k vs ds → DvL m z H k (vs.drop n) (ds.drop n)
  | _, _, 0, h => h
  | _, _, _ + 1, .nil => .nil
  | _, _, n + 1, .cons _ t => t.drop n
end
section
variable {X : Cx} {pins : List (Addr × Obj)} {σ : L2.St} {H : Hp} {s : Shared} {m : Bool} {z : Addr}
theorem vals_list {a : Addr} {xs : List V} (I : Inv X pins σ H s) (h : H a = some (.lst xs)) : ∃ o vs n, s.heap.get? a = some o ∧ o.cls = .type "list" ∧ o.data = .seq vs n ∧ Vals xs vs.toList := by
  obtain ⟨_, its, n, r, e⟩ := I.hok a _ h
  exact ⟨_, its.toArray, n, e, rfl, rfl, by simpa using r⟩
theorem TupAt.obj {k : Bool} {a : Addr} {xs : List V} (I : Inv X pins σ H s) (h : TupAt H k a xs) : xs.length ≤ sizeLine ∧ ∃ its : List Value, Vals xs its ∧ IsTup s.heap a its.toArray := by
  cases h with
  | frz h d => exact (I.hok _ _ h).2
  | big h l => exact I.hok _ _ h
  | any h => exact I.hok _ _ h
mutual
theorem Dv.rd (I : Inv X pins σ H s) : ∀ (k : Bool) (d : PyData) (v : V) (u : Value), Dv m z H k v d → RelV v u → ∃ as, Reads s.heap u d as ∧ (m = true → sysModules ∉ as)
  | _, .none, _, _, h, r => by cases h; cases r; exact ⟨_, .none, fun _ => List.not_mem_nil⟩
  | _, .bool b, _, _, h, r => by cases h; cases r; exact ⟨_, .bool b, fun _ => List.not_mem_nil⟩
  | _, .int i, _, _, h, r => by
    cases h
    obtain ⟨t, rfl⟩ := r
    exact ⟨_, .int i t, fun _ => List.not_mem_nil⟩
  | _, .str x, _, _, h, r => by
    cases h
    obtain ⟨t, rfl⟩ := r
    exact ⟨_, .str x t, fun _ => List.not_mem_nil⟩
  | _, .list ds, _, _, h, r => by
    cases h with
    | lst hm ne h t =>
      cases r
      obtain ⟨o, vs, n, e1, e2, e3, rv⟩ := vals_list I h
      obtain ⟨as, q, _⟩ := DvL.rd I _ ds _ _ t rv
      exact ⟨_, .list e1 e2 e3 q, fun e => absurd (hm.symm.trans e) (by decide)⟩
  | _, .tuple ds, _, _, h, r => by
    cases h with
    | tup ne h t =>
      cases r
      obtain ⟨_, its, rv, o, e1, e2, n, e3⟩ := h.obj I
      obtain ⟨as, q, kk⟩ := DvL.rd I _ ds _ its t rv
      exact ⟨_, .tuple e1 e2 e3 (by simpa using q), kk⟩
  | _, .dict kvs, _, _, h, r => by
    cases h with
    | @dct _ a hm ne h =>
      cases r
      obtain ⟨_, lo, vs, rel, o, es, n, e1, e2, e3, _, e4, _⟩ := I.hok _ _ h
      cases rel
      obtain ⟨l⟩ := es
      have e5 : l = [] := by
        cases l with
        | nil => rfl
        | cons x l => cases e4
      subst e5
      refine ⟨[a] ++ [], .dict (as := []) (bs := []) e1 e2.1 e3 .nil .nil, fun _ hm => ?_⟩
      rw [List.append_nil, List.mem_singleton] at hm
      subst hm
      simp at lo
theorem DvL.rd (I : Inv X pins σ H s) : ∀ (k : Bool) (ds : List PyData) (vs : List V) (us : List Value), DvL m z H k vs ds → Vals vs us → ∃ as, ReadsAll s.heap us ds as ∧ (m = true → sysModules ∉ as)
  | _, [], _, _, h, r => by cases h; cases r; exact ⟨_, .nil, fun _ => List.not_mem_nil⟩
  | _, d :: ds, _, _, h, r => by
    cases h with
    | cons a t =>
      cases r with
      | cons r1 r2 =>
        obtain ⟨as, q1, k1⟩ := Dv.rd I _ d _ _ a r1
        obtain ⟨bs, q2, k2⟩ := DvL.rd I _ ds _ _ t r2
        exact ⟨_, .cons q1 q2, fun e hm => (List.mem_append.mp hm).elim (k1 e) (k2 e)⟩
end
mutual
theorem Dv.nod (e : m = false) : ∀ (k : Bool) (d : PyData) (v : V), Dv m z H k v d → d.hasDict = false
  | _, .none, _, _ => by simp only [PyData.hasDict]
  | _, .bool _, _, _ => by simp only [PyData.hasDict]
  | _, .int _, _, _ => by simp only [PyData.hasDict]
  | _, .str _, _, _ => by simp only [PyData.hasDict]
  | _, .list ds, _, h => by
    cases h with
    | lst hm ne h t => simp only [PyData.hasDict]; exact DvL.nod e _ ds _ t
  | _, .tuple ds, _, h => by
    cases h with
    | tup ne h t => simp only [PyData.hasDict]; exact DvL.nod e _ ds _ t
  | _, .dict _, _, h => by
    cases h with
    | dct hm ne h => exact absurd (hm.symm.trans e) (by decide)
theorem DvL.nod (e : m = false) : ∀ (k : Bool) (ds : List PyData) (vs : List V), DvL m z H k vs ds → PyData.hasDictAll ds = false
  | _, [], _, _ => by simp only [PyData.hasDictAll]
  | _, d :: ds, _, h => by
    cases h with
    | cons a t => simp only [PyData.hasDictAll, Dv.nod e _ d _ a, DvL.nod e _ ds _ t, Bool.or_self]
end
/-- what can be written out -/
structure Shw (d : PyData) : Prop where
  sh : d.showable = true
  dp : d.depth ≤ 10
  sz : d.shown.length ≤ sizeLine
def rRepr : List V → Hp → VK → Prop := fun xs H Q => ∃ (m : Bool) (z : Addr) (v : V) (d : PyData), xs = [v] ∧ Dv m z H false v d ∧ Shw d ∧ Q (.str d.shown) H
theorem call_repr (hg : X.A.guards = some []) (hu : X.A.units + 64 < cLine) : CallR X (.builtin "repr") rRepr := by
  intro pins s σ H xs us Q I r h; skip
  obtain ⟨m, z, v, d, rfl, hd, S, q⟩ := h
  obtain ⟨u, rfl, ru⟩ := vals1 r; skip
  obtain ⟨as, rd, lo⟩ := Dv.rd I _ d v u hd ru
  have fin : ∀ (a : Addr), u = .ref a → wpAny (model X.prog X.w) X.A (call (.builtin "repr") [u]) (EP X pins σ Q) X.xe s := fun a e => by
    subst e
    refine repr_of_reads' rd S.sh (fun hd2 => ?_) hg (by have := S.dp; omega) (fun _ _ e => e) (fun h' w tk k => ?_) S.sz
    · cases m with
      | true => exact lo rfl
      | false => exact absurd (hd2.symm.trans (Dv.nod rfl _ d v hd)) (by decide)
    · exact ⟨.str d.shown, H, I.kept k, ⟨w, rfl⟩, q⟩
  cases rd with
  | none => exact P.repr_of_none ⟨.str _, H, I.tok _, ⟨_, rfl⟩, by simpa only [PyData.shown] using q⟩
  | bool b => exact P.repr_of_bool ⟨.str _, H, I.tok _, ⟨_, rfl⟩, by cases b <;> simpa only [PyData.shown] using q⟩
  | int i t =>
    have e : decide (i.natAbs.log2 < 1920) = true := by simpa only [PyData.showable] using S.sh
    exact P.repr_of_int (of_decide_eq_true e) ⟨.str _, H, I.tok _, ⟨_, rfl⟩, by simpa only [PyData.shown] using q⟩
  | str x t => exact P.repr_of_str ⟨.str _, H, I.tok _, ⟨_, rfl⟩, by simpa only [PyData.shown] using q⟩ (by simpa only [PyData.shown] using S.sz)
  | list => exact fin _ rfl
  | tuple => exact fin _ rfl
  | dict => exact fin _ rfl
end
end Pl

namespace Pl
open L2 PySem PySem.Spec PyProof.Rows
/-! ### a, b, *c = a tuple -/
theorem shiftW {prog : Program} {w : World} {A : Around} {I : Addr} {fp wr : List Addr} {G : Array GenState → Array GenState → Prop} {n : Nat} {P : Nat → Value → Prop} {St : Nat → Shared → Prop}
    (W : WalksS prog w A I fp wr G n P St) (k : Nat) (hk : k ≤ n) : WalksS prog w A I fp wr G (n - k) (fun i => P (i + k)) (fun i => St (i + k)) where
  sub := W.sub
  grefl := W.grefl
  gtrans := W.gtrans
  frame := fun i => W.frame (i + k)
  item := fun i s Q E hi st hQ => W.item (i + k) s Q E (by omega) st fun v s' hp hs hm => by
    have e : i + 1 + k = i + k + 1 := by omega
    have hs' : St (i + 1 + k) s' := by
      rw [e]
      exact hs
    exact hQ v s' hp hs' hm
  done := fun s Q E st hQ => by
    have e : n - k + k = n := by omega
    have st' : St (n - k + k) s := st
    rw [e] at st'
    exact W.done s Q E st' hQ
  self := fun i => W.self (i + k)
theorem items_eq {items : Array Value} {k : Nat} {acc : Array Value} (h : ItemsOf (fun i v => items[i + k]? = some v) acc (items.size - k)) : acc.toList = items.toList.drop k := by
  obtain ⟨h1, h2⟩ := h
  apply List.ext_getElem?
  intro i
  rw [List.getElem?_drop]
  cases e : acc[i]? with
  | some v =>
    have q := h2 i v e
    rw [Array.getElem?_toList, e, Array.getElem?_toList, Nat.add_comm k i]
    exact q.symm
  | none =>
    have q : acc.size ≤ i := by simpa using e
    rw [Array.getElem?_toList, e, Array.getElem?_toList]
    symm
    rw [Array.getElem?_eq_none_iff]
    omega
section
variable {prog : Program} {w : World} {s : Shared} {E : Value → Shared → Prop} {A : Around}
theorem unpack_star {t : Addr} {items : Array Value} {targets : List (Bool × (Value → Sem Unit))} {k : Nat} {Q : Unit → Shared → Prop} (hh : A.handled = none) (ht : s.heap.IsTuple t items)
    (hn : targets.length = k + 1) (hstar : targets.findIdx? (·.1) = some k) (hk : k ≤ items.size) (hz : items.size ≤ sizeLine)
    (h : ∀ (h2 : Heap) (tk : Nat), (∀ b o, s.heap.get? b = some o → h2.get? b = some o) →
      wpAny (model prog w) A (assignInOrder (targets.map (·.2)) (items.toList.take k ++ [.ref h2.objs.size])) Q E { s with heap := h2.push { cls := .type "list", data := .seq (items.toList.drop k).toArray }, toks := tk }) :
    (wpAny (model prog w) A (unpack (.ref t) targets) Q E s) := by
  have hlt : t ≠ s.heap.objs.size := by
    obtain ⟨o, ho, _⟩ := ht
    exact Nat.ne_of_lt (Heap.lt_size ho); skip
  unfold unpack
  rw [hn, hstar]
  refine wpAny_bind (wpAny_holding ?_); skip
  unfold unpackItems
  refine wpAny_bind ?_
  unfold notIterableAtAll
  refine wpAny_bind (wpAny_specialOf ht.typeIs slot_tuple_iter.lookup (wpAny_pure ?_))
  simp only [Bool.false_eq_true, if_false]; skip
  refine wpAny_bind (wpAny_holding (wpAny_pyIter_tuple ht ?_)); skip
  have W0 := (Walks.tuple (prog := prog) (w := w) (A := A.in1) hh s.heap.objs.size t hlt items).toS
  have i0 : (s.heap.push { cls := .type "tuple_iterator", data := .fields #[.ref t, .int 0 0] }).IsTupleIter s.heap.objs.size t 0 := ⟨_, Heap.get?_push_size _ rfl, rfl, rfl⟩
  refine wpAny_bind (wpAny_holding (wpAny_draw_tuple hlt k 0 _ _ i0 (ht.push _) (by omega) fun h1 it1 sb1 => ?_))
  have elen : (List.take k (List.drop 0 items.toList)).length = k := by
    rw [List.drop_zero, List.length_take, Array.length_toList]
    omega
  rw [if_neg (by rw [elen]; omega)]
  have ht1 : h1.IsTuple t items := (ht.push _).extBut sb1.extBut hlt
  have sz1 : s.heap.objs.size < h1.objs.size := by
    obtain ⟨o, ho, _⟩ := it1
    exact Heap.lt_size ho
  have hold : ∀ b o, s.heap.get? b = some o → h1.get? b = some o := fun b o e => by
    rw [sb1.2 b (Nat.ne_of_lt (Heap.lt_size e))]
    exact Heap.get?_push_of_some _ e; skip
  refine wpAny_bind (wpAny_holding (wpAny_collect_iter (T := "tuple_iterator") (.inr (.inr (.inr rfl))) (shiftW W0 k hk) (fun i s' st => st.1.typeIs) ⟨by simpa using it1, ht1⟩ (fun b hb => ?_) (List.mem_cons_self) (fun s2 acc mv it => ?_) (by omega)))
  · rcases List.mem_cons.mp hb with rfl | hb; skip
    · exact sz1
    · rcases List.mem_cons.mp hb with rfl | hb; skip
      · obtain ⟨o, ho, _⟩ := ht1
        exact Heap.lt_size ho
      · cases hb
  · have ea := items_eq it
    have keep2 : ∀ b o, s.heap.get? b = some o → s2.heap.get? b = some o := fun b o e => mv.heap b o (fun hb => absurd (Heap.lt_size e) ((List.mem_singleton.mp hb) ▸ Nat.lt_irrefl _)) (hold b o e)
    have e1 : k + 1 - 1 - k = 0 := by omega
    rw [e1, if_neg (Nat.not_lt_zero _), Nat.sub_zero]
    have e2 : List.take acc.toList.length acc.toList = acc.toList := List.take_length
    have e3 : List.drop acc.toList.length acc.toList = [] := List.drop_length
    rw [e2, e3]
    obtain ⟨hp2, g2, d2, t2, o2⟩ := s2
    obtain ⟨hp, g, d, t0, os⟩ := s
    obtain rfl : g2 = g := mv.gens
    obtain rfl : d2 = d := mv.drawn
    obtain rfl : o2 = os := mv.os
    refine wpAny_bind (wpAny_newList ?_ ?_)
    · refine wpAny_pure ?_
      rw [List.append_nil, List.drop_zero, ea]
      exact h hp2 t2 keep2
    · rw [ea, List.length_drop, Array.length_toList]
      omega
end
end Pl
namespace Pl
open L2 PySem PySem.Spec PyProof.Rows
section
variable {X : Cx}
theorem pgs_star {e : Expr} {es : List Expr} {t : TG} {u : TGs} {p : Pos} (h1 : PG X e t) (h2 : PGs X es u)
    (hs : (assignEach (.Starred e p :: es) X.env).map (·.2) = assign e X.env :: (assignEach es X.env).map (·.2) := by rfl) : PGs X (.Starred e p :: es) (gCons t u) :=
  ⟨fun pins s σ H vs us Q I r h => by
    obtain ⟨v, vr, rfl, h⟩ := h
    cases r with
    | cons r rr =>
      rw [hs]
      exact assignInOrder_cons (thn (h1.run pins s σ H _ _ _ I r h) fun _ s1 ⟨σ1, H1, I1, q1⟩ => h2.run pins s1 σ1 H1 _ _ Q I1 rr q1)⟩
def gStar (K : PySem.W.Frag) (k : Nat) (t : TGs) : TG := fun v σ H Q => ∃ a xs, v = .ref a ∧ SqT K H a xs ∧ k ≤ xs.length ∧ ∀ p, H p = none → t (xs.take k ++ [.ref p]) σ (upd H p (.lst (xs.drop k))) Q
theorem pg_star {es : List Expr} {j k : Nat} {t : TGs} {pos : Pos} (hc : X.calm = true) (h : PGs X es t) (hn : (assignEach es X.env).length = k + 1 := by rfl)
    (hst : (assignEach es X.env).findIdx? (·.1) = some k := by rfl) : PG X (.Tuple es j pos) (gStar X.K k t) := by
  refine ⟨fun pins s σ H v u Q I r hw => ?_⟩; skip
  obtain ⟨a, xs, rfl, hq, hl, hw⟩ := hw
  cases r
  obtain ⟨its, rv, ht, hz⟩ := I.tuple hq; skip
  rw [assign_Tuple]
  refine wpAny_bind (wpAny_standAt (unpack_star (I.ok.hd hc) ht hn hst (by rw [List.size_toArray, ← rv.length]; exact hl) (by rw [List.size_toArray, ← rv.length]; exact hz) fun h2 tk kp => ?_))
  have I2 : Inv X pins σ H { s with heap := h2, toks := tk } := I.kept kp
  have hf : H h2.objs.size = none := I2.hok.fresh (Nat.le_refl _)
  have rd : Vals (xs.drop k) (its.drop k) := rv.drop k
  have I3 : Inv X pins σ (upd H h2.objs.size (.lst (xs.drop k))) { s with heap := h2.push { cls := .type "list", data := .seq (its.drop k).toArray }, toks := tk } :=
    I2.laid (t' := tk) (fun b u e => Heap.get?_push_of_some _ e) (Nat.le_refl _) ⟨by rw [List.length_drop]; omega, _, 0, rd, Heap.get?_push_size _ rfl⟩
  exact h.run pins _ σ _ _ _ Q I3 ((rv.take k).append (.cons (show RelV (.ref h2.objs.size) (Value.ref h2.objs.size) from rfl) .nil)) (hw _ hf)
end
end Pl

namespace Pl
open L2 PySem PySem.Spec PyProof.Rows
section
variable {prog : Program} {w : World} {s : Shared} {E : Value → Shared → Prop} {A : Around}
/-- a tuple's items, gathered -/
theorem gather_tup {a : Addr} {xs : List Value} {Q : List Value → Shared → Prop} (ht : s.heap.IsTuple a xs.toArray) (hz : xs.length ≤ sizeLine)
    (q : Q xs { s with heap := (s.heap.push (seqObj "list" #[] 0)).update s.heap.objs.size (Obj.mapSeq (· ++ xs.toArray)) }) : wpAny (model prog w) A (collect (.ref a)) Q E s := by
  obtain ⟨ob, e1, e2, k, e3⟩ := id ht
  have e1' : (s.heap.push (seqObj "list" #[] 0)).get? a = some ob := Heap.get?_push_of_some _ e1
  have top : (s.heap.push (seqObj "list" #[] 0)).get? s.heap.objs.size = some (seqObj "list" #[] 0) := Heap.get?_push_size _ rfl
  unfold collect
  refine wpAny_bind (wpAny_runValue (codeAny_builtin entry_proto_collect' ?_)); skip
  show wpAny _ _ (newList [] >>= fun g => again (.builtin "list.__iadd__" ⟨[g, .ref a], []⟩)) _ _ s
  refine wpAny_bind (wpAny_newList (wpAny_pure ⟨Code.quiet_builtin _ (by decide +kernel), codeAny_builtin entry_list_iadd' ?_⟩)); skip
  have go : ∀ (P : PySem.Fin → Shared → Prop) (F : Value → Shared → Prop) (B : Around), P (.done (.ret (.ref s.heap.objs.size))) { s with heap := (s.heap.push (seqObj "list" #[] 0)).update s.heap.objs.size (Obj.mapSeq (· ++ xs.toArray)) } →
      wpAny (model prog w) B (Builtin.List.listExtendWith (.ref s.heap.objs.size) (.ref a) (.ref s.heap.objs.size)) P F { s with heap := s.heap.push (seqObj "list" #[] 0) } := by
    intro P F B hP
    unfold Builtin.List.listExtendWith; skip
    refine wpAny_bind (wpAny_typeOf (T := "tuple") ⟨ob, e1', e2⟩ ?_)
    have two : (Value.type "tuple" == Value.type "tuple") = true := by rfl
    rw [if_pos (by rw [two]; simp)]
    refine wpAny_bind (listItems_at e1' e3 ?_)
    refine wpAny_bind (listItems_at (xs := #[]) (n := 0) top rfl ?_)
    rw [if_neg (by simp)]
    refine wpAny_bind (listUpdate_at (xs := #[]) (n := 0) top rfl ?_ (Nat.zero_le _) (by
      show (#[] ++ xs.toArray).size ≤ sizeLine + 1
      rw [Array.size_append, List.size_toArray]
      show 0 + xs.length ≤ sizeLine + 1
      omega))
    exact wpAny_pure hP
  refine go _ _ _ ?_
  show wpAny (model prog w) A (load s.heap.objs.size >>= _) Q E _
  refine wpAny_bind (wpAny_load (get?_update_seq top _) ?_)
  have e : ((#[] : Array Value) ++ xs.toArray).toList = xs := by simp
  show wpAny _ _ (pure ((#[] : Array Value) ++ xs.toArray).toList) Q E _
  rw [e]
  exact wpAny_pure q
end
end Pl
namespace Pl
open PySem PySem.W PySem.Calls PyProof.Rows L2
section
variable {prog : Program} {w : World} {s : Shared} {E : Value → Shared → Prop} {A : Around}
/-- sorted(a tuple, ..) is the sort of a new list of its items -/
theorem tup_sorted {a : Addr} {xs : List Value} {kw : List (Str × Value)} {Q : Value → Shared → Prop} (ht : s.heap.IsTuple a xs.toArray) (hz : xs.length ≤ sizeLine) (ok1 : argsOk "sorted" ⟨[.ref a], kw⟩) (ok2 : ∀ y, argsOk "list.sort" ⟨[.ref y], kw⟩)
    (run : ∀ F : Value → Shared → Prop, wpAny (model prog w) A.in1.in1 (Builtin.«list.sort» ⟨[.ref (s.heap.objs.size + 1)], kw⟩) (fun f s' => f = .done (.ret .none) ∧ Q (.ref (s.heap.objs.size + 1)) s') F { s with heap := copyHeap s.heap xs }) :
    wpAny (model prog w) A (call (.builtin "sorted") [.ref a] kw) Q E s := by
  refine call_function_entry_kw kind_sorted plain_sorted entry_sorted ok1 ?_
  unfold Builtin.«sorted»
  refine wpAny_bind (m := checkCount "sorted" 1 1 _) (wpAny_pure ?_); skip
  refine wpAny_bind (gather_tup ht hz (wpAny_bind (wpAny_newList ?_ hz)))
  have n1 : ((s.heap.push (seqObj "list" #[] 0)).update s.heap.objs.size (Obj.mapSeq (· ++ xs.toArray))).objs.size = s.heap.objs.size + 1 := by
    rw [Heap.size_update]
    exact size_push' _ _
  show wpAny _ _ _ _ _ { s with heap := copyHeap s.heap xs }
  rw [n1]
  refine wpAny_bind (wpAny_holding (wpAny_call_entry_kw slot_list_sort ⟨_, copyHeap_at s.heap xs, rfl⟩ entry_list_sort ?go (ok2 _)))
  case go =>
    show wpAny (model prog w) A.in1.in1 (Builtin.«list.sort» ⟨[.ref (s.heap.objs.size + 1)], kw⟩) _ _ _; skip
    exact wpAny_mono (run _) (fun f s' ⟨e, q⟩ => ⟨.none, by rw [e], wpAny_pure ⟨_, rfl, q⟩⟩) fun _ _ e => e
section
variable {β : Type} {R : Value → β → Prop} {bs : List β} {vs : List Value}
theorem tup_sorted_data {enc : β → PyData} {a : Addr} {Q : Value → Shared → Prop} (ht : s.heap.IsTuple a vs.toArray) (e : EachIs R vs bs) (er : EachIs (fun v b => ∃ as, Reads s.heap v (enc b) as) vs bs) (hal : AllAlike (bs.map enc)) (hk : Sortable (bs.map enc)) (hL : bs.length ≤ sizeLine)
    (hu : ∀ b, b ∈ bs → A.units + 2 + (enc b).depth < cLine) (q : ∀ out, out.length = bs.length → EachIs R out (bs.mergeSort (dataLe false enc)) → Q (.ref (s.heap.objs.size + 1)) { s with heap := sortedAll s.heap vs (List.toArray out) }) :
    wpAny (model prog w) A (call (.builtin "sorted") [.ref a]) Q E s := by
  have up : EachIs (fun v b => ∃ as, Reads (sortingHeap (copyHeap s.heap vs) (s.heap.objs.size + 1) vs) v (enc b) as) vs bs := er.mono fun _ _ ⟨as, r⟩ => ⟨as, PyProof.Rows.Reads.keeps (fun _ _ => sorting_copy_old) r⟩
  have S := SortsAt.data (prog := prog) (w := w) (A := A.in1.in1) (s := { s with heap := sortingHeap (copyHeap s.heap vs) (s.heap.objs.size + 1) vs }) (each_map (R := fun v d => ∃ as, Reads (sortingHeap (copyHeap s.heap vs) (s.heap.objs.size + 1) vs) v d as) enc up) hal hk (bound_map hu)
  refine tup_sorted ht (by rw [e.length]; exact hL) (args_sorted1 _) (fun _ => args_list_sort _) fun F => ?_
  exact list_sort_vals (s := { s with heap := copyHeap s.heap vs }) (copyHeap_at s.heap vs) S (by rw [e.length]; exact hL) ⟨rfl, q _ (by rw [sortVals_length false rfl]; exact e.length) (sortVals_data false e up hal)⟩
theorem tup_sorted_key {a : Addr} {f : Addr} {Q : Value → Shared → Prop} (k : β → PyData) (ht : s.heap.IsTuple a vs.toArray) (e : EachIs R vs bs) (hal : AllAlike (bs.map k)) (hk : Sortable (bs.map k)) (hL : bs.length ≤ sizeLine)
    (hu : ∀ x, x ∈ bs → A.units + 2 + (k x).depth < cLine)
    (turn : ∀ (v : Value) (x : β), R v x → x ∈ bs → ∀ (h : Heap) (tk : Nat), (∀ c o, s.heap.get? c = some o → h.get? c = some o) →
      wpAny (model prog w) A.in1.in1 (call (.ref f) [v]) (KeyPure (k x) { s with heap := h, toks := tk }) (fun _ _ => False) { s with heap := h, toks := tk })
    (q : ∀ out c h' tk, (∀ b o, s.heap.get? b = some o → h'.get? b = some o) → h'.get? (s.heap.objs.size + 1) = some (seqObj "list" (List.toArray out) c) → out.length = bs.length → EachIs R out (bs.mergeSort (dataLe false k)) →
      (Q (.ref (s.heap.objs.size + 1)) { s with heap := h', toks := tk })) :
    wpAny (model prog w) A (call (.builtin "sorted") [.ref a] [(Str.ofString "key", .ref f)]) Q E s := by
  have up : ∀ {g : Heap}, KeepsBut (s.heap.objs.size + 1) (copyHeap s.heap vs) g → ∀ b o, s.heap.get? b = some o → g.get? b = some o := fun {g} kp b o x => kp b o (Nat.ne_of_lt (Nat.lt_succ_of_lt (Heap.lt_size x))) (copyHeap_old x)
  have zl : (bs.map k).length = vs.length := by
    rw [List.length_map]
    exact e.length.symm
  refine tup_sorted ht (by rw [e.length]; exact hL) (ksk_s1 _ _) (fun _ => ksk_l1 _ _) fun F => ?_
  rw [ksk_t1]
  refine keyH_tree (kz := bs.map k) (s := { s with heap := copyHeap s.heap vs }) (copyHeap_at s.heap vs) zl (by rw [e.length]; exact hL) hal hk (bound_map (A := A.in1.in1) hu)
    (keyH_turns (s := { s with heap := copyHeap s.heap vs }) e fun v x r m h tk kp => turn v x r m h tk (up kp)) fun h' tk out c kp hD ko => ⟨rfl, ?_⟩
  exact q out c h' tk (up kp) hD ((ko.length zl).trans e.length) (keyedOut_each k ko e)
end
end
end Pl

namespace Pl
open L2 PySem PySem.Spec PyProof.Rows
/-- as FnOk, at places where nothing is being written out -/
structure FnG (P : Program) (w : World) (K : PySem.W.Frag) (mg : Str → Option Value) (base : Heap) (k : Nat) (f : Addr) (fd : FuncData) (ps : List Str) (sp : Sp) : Prop where
  len : ∀ us H Q E, sp us H Q E → us.length = ps.length
  run : ∀ (A : Around) (outer : List Env) (s : Shared) (H : Hp) (args : Args) (us : List Value) (vs : List V) (Q : VK) (E : XK), A.guards = some [] → Room k A → Env0 P w K mg base A outer s H → BindsTo s fd args (ps.zip us) → Vals vs us → sp vs H Q E →
    codeAny (model P w) A (.call (.ref f) args) (CR CX0 outer P w H s Q E) s
section
variable {P : Program} {K : PySem.W.Frag} {w : World} {base : Heap} {mg : Str → Option Value}
theorem okG0 {x qual : Str} {st : Stmt} {f : Addr} {N ps : List Str} {k : Nat} {sp : Sp} {oc kV doc pm cdv ct : Value} {od an : Option Addr} {osl : Array (Option Value)} (lk : K.lookup f = some ⟨oc, od, .func (PySem.W.fnOf x qual (defArgs st) (defBody st) (defScope st) .none kV doc pm an cdv ct), osl⟩) (hcd : PySem.W.codeIn K cdv qual = true)
    (S : FnScope N ps (defScope st)) (len : ∀ vs H Q E, sp vs H Q E → vs.length = ps.length)
    (walk : ∀ (A : Around) (outer : List Env) (s : Shared) (H : Hp) (vs : List V) (Q : VK) (E : XK), A.guards = some [] → Room k (A.deeper (envOfC qual (defScope st) s.heap.objs.size f cdv)) → sp vs H Q E →
      ∃ t, PSs (cxOf CX0 P w K mg base N qual (defScope st) f cdv A outer s H E).nox (defBody st) t ∧ t { nx := fun _ H' => Q .non H', rt := Q } (start N vs) H) : FnG P w K mg base (k + 1) f (PySem.W.fnOf x qual (defArgs st) (defBody st) (defScope st) .none kV doc pm an cdv ct) ps sp := by
  refine ⟨len, ?_⟩
  intro A outer s H args us vs Q E hg room env bind rel want
  have kin : K.In s.heap := env.mod.kin.keeps fun b o e => (env.bs b o e).1
  have nol : s.heap.NoLimit := env.mod.nolimit.keeps fun b o e => (env.bs b o e).1
  obtain ⟨t, ht, goal⟩ := walk A outer s H vs Q E hg (room.deeper _) want
  refine codeAny_call_function room.depth (kin _ _ lk) rfl S.co S.gen rfl (PySem.W.codeRec_of kin hcd) (bind _ _ _ _ (wpAny_newFunctionEnv_cells S.kind (fun y hy => ?_) fun env' ee s1 made => ?_))
  · rcases S.par y.1 (List.of_mem_zip (a := y.1) (b := y.2) hy).1 with h | h
    · exact .inl h
    · exact .inr ⟨h, PySem.W.cellsFrom_some _ _ _ (.inl h)⟩
  · subst ee
    refine ⟨nol.keeps made.toInCall.keep, codeAny_func (wpAny_mono (ht.nox.run [] s1 (start N vs) H _ (inv_start S room.hd env (len _ _ _ _ want) rel made) goal) ?_ fun _ _ h => h)⟩
    intro fl s2 h
    match fl, h with
    | .ret u, ⟨v, σ2, H2, J, rv, q⟩ => exact ⟨v, H2, J.os, J.bare, J.base, J.hok, rv, q⟩
    | .next, ⟨σ2, H2, J, q⟩ => exact ⟨V.non, H2, J.os, J.bare, J.base, J.hok, rfl, q⟩
    | .brk, ⟨_, _, _, q⟩ => exact q.elim
    | .cont, ⟨_, _, _, q⟩ => exact q.elim
theorem okG {x qual : Str} {st : Stmt} {f : Addr} {fd : FuncData} {N ps : List Str} {k : Nat} {sp : Sp} (F : Fun K x qual st f fd) (S : FnScope N ps (defScope st)) (len : ∀ vs H Q E, sp vs H Q E → vs.length = ps.length)
    (walk : ∀ (cdv : Value) (A : Around) (outer : List Env) (s : Shared) (H : Hp) (vs : List V) (Q : VK) (E : XK), A.guards = some [] → Room k (A.deeper (envOfC qual (defScope st) s.heap.objs.size f cdv)) → sp vs H Q E →
      ∃ t, PSs (cxOf CX0 P w K mg base N qual (defScope st) f cdv A outer s H E).nox (defBody st) t ∧ t { nx := fun _ H' => Q .non H', rt := Q } (start N vs) H) : FnG P w K mg base (k + 1) f fd ps sp := by
  obtain ⟨oc, od, kV, doc, pm, an, cdv, ct, osl, rfl, lk, hcd⟩ := F.ex; skip
  exact okG0 lk hcd S len fun A outer s H vs Q E => walk cdv A outer s H vs Q E
/-- a def whose code object is known -/
structure FunC (K : PySem.W.Frag) (x qual : Str) (st : Stmt) (f c : Addr) (fd : FuncData) : Prop where
  ex : ∃ (oc : Value) (od : Option Addr) (kV doc pm : Value) (an : Option Addr) (ct : Value) (osl : Array (Option Value)),
    fd = PySem.W.fnOf x qual (defArgs st) (defBody st) (defScope st) .none kV doc pm an (.ref c) ct ∧ K.lookup f = some ⟨oc, od, .func fd, osl⟩ ∧ PySem.W.codeIn K (.ref c) qual = true
theorem okC {x qual : Str} {st : Stmt} {f c : Addr} {fd : FuncData} {N ps : List Str} {k : Nat} {sp : Sp} (F : FunC K x qual st f c fd) (S : FnScope N ps (defScope st)) (len : ∀ vs H Q E, sp vs H Q E → vs.length = ps.length)
    (walk : ∀ (A : Around) (outer : List Env) (s : Shared) (H : Hp) (vs : List V) (Q : VK) (E : XK), A.guards = some [] → Room k (A.deeper (envOfC qual (defScope st) s.heap.objs.size f (.ref c))) → sp vs H Q E →
      ∃ t, PSs (cxOf CX0 P w K mg base N qual (defScope st) f (.ref c) A outer s H E).nox (defBody st) t ∧ t { nx := fun _ H' => Q .non H', rt := Q } (start N vs) H) : FnG P w K mg base (k + 1) f fd ps sp := by
  obtain ⟨oc, od, kV, doc, pm, an, ct, osl, rfl, lk, hcd⟩ := F.ex
  exact okG0 lk hcd S len walk
end
section
variable {X : Cx} {k i : Nat} {f : Addr} {fd : FuncData} {ps : List Str} {sp : Sp} {x : Str} {p pos : Pos} {e : Expr} {es : List Expr} {t : TA}
def tCallG (sp : Sp) (t : TA) : TE := fun σ H Q => t σ H fun vs H1 => sp vs H1 Q (fun _ _ _ => True)
theorem pe_callG (F : FnG X.prog X.w X.K X.mg X.base k f fd ps sp) (hgd : X.A.guards = some []) (hr : Room k X.A) (hg : Gl X x) (hm : X.mg x = some (.ref f)) (hk : PySem.W.keepIn X.K (.ref f) = true) (hb : Binds X.K fd ps []) (ha : PA X (e :: es) t)
    (hdb : ((x == ("__debug__" : Str)) = false) := by decide) (he : starEach (e :: es) X.env = (false, eval e X.env) :: starEach es X.env := by rfl) (hpl : (backTo pos (starEach es X.env)).any (·.1) = false := by rfl) :
    PE X (.Call (.Name x p) (e :: es) [] pos) (tCallG sp t) := by
  constructor
  intro pins s σ H Q I h
  refine wpAny_Call_Name_kw (ld_glob I hg hm (PySem.W.callWith_K (h₀ := X.base) I.ok.mod.kin hk (thn (ha.run pos pins s σ H _ I h) ?_) he hpl) hdb)
  rintro us s1 ⟨vs, H1, I1, r, q⟩
  refine ⟨I1.kIn, ?_⟩
  have hl : us.length = ps.length := r.length.symm.trans (F.len _ _ _ _ q)
  have b := hb s1 us I1.kIn (by rw [List.append_nil]; exact hl)
  rw [List.append_nil] at b
  refine wpAny_call (codeAny_mono (F.run X.A X.stack s1 H1 ⟨us, []⟩ us vs Q _ hgd hr I1.env0 b r q) ?_)
  intro r s2 hq
  match r, hq with
  | .error _, hq => exact False.elim hq
  | .ok (.ret u), hq => exact I1.after hq
  | .ok .next, hq => exact False.elim hq
  | .ok .brk, hq => exact False.elim hq
  | .ok .cont, hq => exact False.elim hq
/-- a def that may raise, held by a local name -/
structure HeldX (P : Program) (w : World) (K : PySem.W.Frag) (mg : Str → Option Value) (base : Heap) (k : Nat) (f : Addr) (sp : Sp) : Prop where
  ex : ∃ (fd : FuncData) (ps : List Str), FnOk P w K mg base (L2.CX P w) k f fd ps sp ∧ PySem.W.keepIn K (.ref f) = true ∧ Binds K fd ps []
def tCallHX (Hd : Addr → Sp → Prop) (i : Nat) (E : L2.St → XK) (t : TA) : TE := fun σ H Q => ∃ f sp, σ[i]? = some (some (.ref f)) ∧ Hd f sp ∧ t σ H fun vs H1 => sp vs H1 Q (E σ)
theorem pe_callHX {E : L2.St → XK} (hr : Room k X.A) (hN : X.N[i]? = some x) (hv : Vis X.env.scope x) (hx : ∀ σ, PassesAt (L2.CX X.prog X.w) X σ (E σ)) (ha : PA X (e :: es) t) (hdb : (x == ("__debug__" : Str)) = false := by decide) (hcd : (x == ("__classdict__" : Str)) = false := by decide)
    (he : (starEach (e :: es) X.env = (false, eval e X.env) :: starEach es X.env) := by rfl) (hpl : ((backTo pos (starEach es X.env)).any (·.1) = false) := by rfl) :
    PE X (.Call (.Name x p) (e :: es) [] pos) (tCallHX (HeldX X.prog X.w X.K X.mg X.base k) i E t) := by
  constructor
  rintro pins s σ H Q I ⟨f, sp, hs, hH, ht⟩
  obtain ⟨fd, ps, F, hk, hb⟩ := hH.ex
  refine wpAny_Call_Name_kw (thn ((pe_var (pos := p) hN hv hdb hcd).run pins s σ H (fun v H1 => v = .ref f ∧ H1 = H) I ⟨.ref f, hs, rfl, rfl⟩) ?_)
  rintro u s1 ⟨v, H1, I1, r1, rfl, rfl⟩
  cases r1
  exact PySem.W.callWith_K (h₀ := X.base) I.ok.mod.kin hk (thn (ha.run pos pins s1 σ _ _ I1 ht) fun us s2 ⟨vs, H2, I2, r, q⟩ => ⟨I2.kIn, run_fnS F hr hb (hx σ) I2 r q⟩) he hpl
/-- isinstance(the caught error, its own class) -/
def rIsX (a : Addr) (cls : Value) (d : Option Addr) (C : Addr) : List V → Hp → VK → Prop := fun xs H Q => xs = [.ref a, .ref C] ∧ cls = .ref C ∧ (∃ (dd : Addr) (fs : List (Str × V)), d = some dd ∧ H dd = some (.xd fs)) ∧ Q (.bl true) H
theorem call_isX {a C : Addr} {oe : Obj} {cls : Value} {d : Option Addr} {pn : List (Addr × Obj)} (hz : Zc cls d oe) (hf : ∃ vs, oe.data = .fields vs) : CallR (X.suite a ((a, oe) :: pn)) (.builtin "isinstance") (rIsX a cls d C) := by
  rintro pins s σ H xs us Q I r ⟨rfl, rfl, ⟨dd, fs, rfl, hd⟩, q⟩
  obtain ⟨u1, u2, rfl, r1, r2⟩ := vals2 r; skip
  obtain rfl : u1 = Value.ref a := r1
  obtain rfl : u2 = Value.ref C := r2
  obtain ⟨ha, _⟩ := I.pin (a, oe) (List.mem_append_left _ List.mem_cons_self)
  obtain ⟨vs, hv⟩ := hf
  obtain ⟨mA, hns, hr⟩ : ObjOk X.prog X.w H s.heap dd (.xd fs) := I.hok dd _ hd
  obtain ⟨od, ho, hl⟩ := lookIn_ns hns; skip
  have J : PySem.W.InstAt s.heap a oe C (some od) := ⟨ha, hz.1, by unfold PySem.W.notCls; rw [hv] <;> rfl, by rw [hz.2]; exact ho⟩
  refine call_isinstance (S := fun _ R s2 => s2 = s ∧ R (.ok (.ret (.bool true))) s2) ?_ ⟨rfl, .bl true, H, I, rfl, q⟩
  rintro prog w A R s2 ⟨rfl, hR⟩
  refine isinstance_outer ?_ (fun z => by cases z)
  unfold Builtin.«isinstance.nested»; skip
  refine wpAny_bind ((J.type (M := model prog w)).at ?_)
  rw [if_pos (beq_self_eq_true _)]; skip
  first
    | exact wpAny_bind (wpAny_rule (hR))
    | exact wpAny_bind (wpAny_rule (wpAny_pure hR))
    | exact wpAny_pure hR
end
end Pl

namespace Pl
open L2 PySem PySem.Spec PyProof.Rows
abbrev SuT := Value × (Addr → Value → Option Addr → TS)
/-- what clauses «except x as n» (all of one name n, slot i) wish of an exception, one behind another -/
def wAll (K : PySem.W.Frag) (i : Nat) (Wo : WX) (D : Ends) : List SuT → WX
  | [] => Wo
  | q :: r => wAs K q.1 i q.2 (wAll K i Wo D r) D
/-- the clauses, each with its class and its suite -/
inductive Cls (X : Cx) (n : Str) : List ExceptHandler → List SuT → Prop
  | nil : Cls X n [] []
  | cons {x : Str} {c : Value} {ts : Addr → Value → Option Addr → TS} {b1 : Stmt} {bs : List Stmt} {p1 p2 : Pos} {hs : List ExceptHandler} {l : List SuT} (names : Names X x c)
      (suite : ∀ (a : Addr) (o : Obj) (k : Value) (d : Option Addr) (pn : List (Addr × Obj)), Zc k d o → (∃ vs, o.data = .fields vs) → PSs (X.suite a ((a, o) :: pn)) (b1 :: bs) (ts a k d)) (rest : Cls X n hs l) :
      Cls X n (.ExceptHandler (some (.Name x p1)) (some n) (b1 :: bs) p2 :: hs) ((c, ts) :: l)
section
variable {X : Cx} {n : Str} {i : Nat} {Wo : WX} {D : Ends} {pins : List (Addr × Obj)} {H : Hp} {σ : L2.St} {s0 s1 : Shared}
/-- an exception of the class k, dict d, at a, on its way past the clauses -/
structure Onway (X : Cx) (pins : List (Addr × Obj)) (σ : L2.St) (H : Hp) (s0 s1 : Shared) (B : Heap) (a : Addr) (k : Value) (d : Option Addr) (g : Heap) : Prop where
  inv : Inv X pins σ H s0
  fly : HandSPX.FlyingZ B (X.env :: X.outer) a (Zc k d) g
  nb : ∀ b o, s0.heap.get? b = some o → b ∉ frs X.stack → B.get? b = some o
  up : s0.heap.UpToSlots g
  new : H a = none
  os : s1.os = s0.os
  bare : AllBare s1.gens
theorem Onway.now {B g : Heap} {a : Addr} {k : Value} {d : Option Addr} (w : Onway X pins σ H s0 s1 B a k d g) : Inv X pins σ H { s1 with heap := g } := w.inv.landed w.nb w.fly.1 w.up w.os w.bare
theorem Onway.far {B g : Heap} {a : Addr} {k : Value} {d : Option Addr} (w : Onway X pins σ H s0 s1 B a k d g) {o : Obj} {vs : Array Value} (ho : g.get? a = some o) (hd : o.data = .fields vs) : a ∉ frs (X.env :: X.outer) := by
  intro m
  obtain ⟨_, o2, e2, nf⟩ := w.fly.2.2.1.mem m
  cases ho.symm.trans e2
  exact nf _ hd
theorem clauses (hs : X.stack = X.env :: X.outer) (hf : X.env.frame = some X.env.locals) (nd : X.N.Nodup) (hi : X.N[i]? = some n) (hn : X.env.kindOf n = some .local) (tk : Takes X Wo) {B : Heap} {a : Addr} {k : Value} {d : Option Addr} {hds : List ExceptHandler} {l : List SuT} (cl : Cls X n hds l) :
    ∀ g : Heap, Onway X pins σ H s0 s1 B a k d g → wAll X.K i Wo D l k d σ H → wpAny (model X.prog X.w) X.A (handleBy (.ref a) X.env hds) (SP X pins D) X.xe { s1 with heap := g } := by
  induction cl with
  | nil =>
    intro g w hw
    refine wpAny_handleBy_nil ?_
    obtain ⟨_, _, _, o, vs, T, _, _, ho, _, hd, h1, _⟩ := id w.fly
    have last : wpAny (model X.prog X.w) X.A (setFlight (.ref a) X.env.frame) (fun _ s4 => wpAny (model X.prog X.w) X.A (throw (.ref a) : Sem Flow) (SP X pins D) X.xe s4) X.xe { s1 with heap := g } := by
      rw [hf]
      exact HandSPX.setFlight_upZ w.fly fun h4 held more => wpAny_throw (tk _ _ ⟨a, B, s0, pins, σ, H, k, d, rfl, w.inv, w.nb, w.up.trans more, .inr (.inr (hs ▸ held)), w.new, w.os, w.bare, hw⟩)
    unfold PySem.passOn
    refine wpAny_bind (wpAny_field ho hd h1 ?_)
    rw [if_neg (by simp : ¬ ((Value.ref T == Value.none) = true))]
    first | exact wpAny_bind last | exact wpAny_bind (wpAny_pure (wpAny_bind last))
  | @cons x c ts b1 bs p1 p2 hds2 l2 names suite rest ih =>
    intro g w hw
    obtain ⟨b, hb, yes, no⟩ := hw
    obtain ⟨o, vs, ho, hz, hd⟩ := w.fly.there
    have notL : a ≠ X.env.locals := fun e => w.far ho hd (List.mem_filterMap.mpr ⟨X.env, List.mem_cons_self, by rw [hf, e]⟩)
    have notF : a ∉ X.fs := fun m => by
      obtain ⟨e, he, q⟩ := List.mem_filterMap.mp m
      exact w.far ho hd (List.mem_filterMap.mpr ⟨e, List.mem_cons_of_mem _ he, q⟩)
    refine wpAny_handleBy_cons (codeAny_handlers_test ?_) (fun q => by cases q)
    have look : PySem.W.Looks (model X.prog X.w) g (typeOf (.ref a)) k := fun A Q E s kp q => wpAny_typeOf_ref (kp _ _ ho) (hz.1 ▸ q)
    have told := PySem.W.exm_one (M := model X.prog X.w) w.now.kIn look hb
    have inS := w.now.suite ho hd w.new notL notF
    have asked : ∀ {Q E : Value → Shared → Prop}, Q c { s1 with heap := g } → wpAny (model X.prog X.w) (X.A.mark (some (.ref a))) (eval (.Name x p1) X.env) Q E { s1 with heap := g } := fun {Q E} q => by
      rcases names with ⟨gl, db, m | ⟨m, v, nn⟩⟩
      · exact ld_glob (X := X.suite a ((a, o) :: (X.pn ++ pins))) inS gl m q db
      · exact ld_blt (X := X.suite a ((a, o) :: (X.pn ++ pins))) inS gl m v q nn db
    refine asked (told.here ?_)
    cases b with
    | false => exact ih g w (no rfl)
    | true =>
      refine codeAny_handlers_suite_as (HandSPX.lands_againZ w.fly fun g4 fly4 up4 => ?_)
      have w4 : Onway X pins σ H s0 s1 B a k d g4 := ⟨w.inv, fly4, w.nb, w.up.trans up4, w.new, w.os, w.bare⟩
      obtain ⟨o4, vs4, ho4, hz4, hd4⟩ := w4.fly.there
      refine store_ok (X := X.suite a ((a, o4) :: (X.pn ++ pins))) (v := .ref a) (w4.now.suite ho4 hd4 w4.new notL notF) nd hi (.inl hn) rfl (fun s5 I5 => ?_) (.inr hn)
      refine wpAny_mono ((suite a o4 k d (X.pn ++ pins) hz4 ⟨_, hd4⟩).run [] s5 _ H _ I5 (yes rfl a w4.new)) (fun f s6 hsp => ?_) (fun _ _ z => z.elim)
      have behind : ∀ {σ6 : L2.St} {H6 : Hp} {Q : Shared → Prop}, Inv (X.suite a ((a, o4) :: (X.pn ++ pins))) [] σ6 H6 s6 → (∀ s7, Inv X pins (σ6.set i none) H6 s7 → Q s7) →
          wpAny (model X.prog X.w) X.A (do bindName X.env n .none; unbindBehindTheSuite X.env n p2) (fun _ s7 => Q s7) X.xe s6 := fun {σ6 H6 Q} I6 q => gone_ok (I6.unsuite w.inv.ok) nd hi hn q
      cases f with
      | ret u =>
        obtain ⟨v, σ6, H6, I6, r, q⟩ := hsp
        exact behind I6 fun s7 I7 => ⟨_, _, _, I7, r, q⟩
      | next =>
        obtain ⟨σ6, H6, I6, q⟩ := hsp
        exact behind I6 fun s7 I7 => ⟨_, _, I7, q⟩
      | brk =>
        obtain ⟨σ6, H6, I6, q⟩ := hsp
        exact behind I6 fun s7 I7 => ⟨_, _, I7, q⟩
      | cont =>
        obtain ⟨σ6, H6, I6, q⟩ := hsp
        exact behind I6 fun s7 I7 => ⟨_, _, I7, q⟩
/-- try: body / except x as n: .. / except y as n: .. -/
theorem ps_try_all {body : List Stmt} {h0 : ExceptHandler} {hds : List ExceptHandler} {l : List SuT} {pos : Pos} {tb : WX → TS} (hs : X.stack = X.env :: X.outer) (hf : X.env.frame = some X.env.locals) (nd : X.N.Nodup) (hi : X.N[i]? = some n) (hn : X.env.kindOf n = some .local) (tk : Takes X Wo)
    (hb : ∀ (W : WX) (pn : List (Addr × Obj)) (xe : Value → Shared → Prop), Takes (X.tr pn xe) W → PassesOwn (model X.prog X.w) X.A X.env xe → PSs (X.tr pn xe) body (tb W)) (cl : Cls X n (h0 :: hds) l) :
    PS X (.Try body (h0 :: hds) [] [] pos) (fun D σ H => tb (wAll X.K i Wo D l) D σ H) := by
  constructor
  intro pins s σ H D I h
  have ok := I.ok
  have frames : X.A.frames = some (X.env :: X.outer) := by rw [ok.frames, hs]
  refine wpAny_Try_except (wpAny_mono ((hb (wAll X.K i Wo D l) (X.pn ++ pins) (fun e sa => wpAny (model X.prog X.w) X.A (noteFrame e X.env) (fun _ sb => wpAny (model X.prog X.w) X.A (setFlight e none) (fun _ sc =>
    wpAny (model X.prog X.w) X.A (handleBy e X.env (h0 :: hds)) (SP X pins D) X.xe sc) X.xe sb) X.xe sa) (fun u s1 thrown => ?_) PassesOwn.looking).run [] s σ H D (I.toTry _) h) (fun f s1 hsp => ?_) (fun _ _ z => z))
  · obtain ⟨a, B, s0, ps, σ1, H1, k, d, rfl, I1, nb, up, sky, new, os, bare, hw⟩ := thrown
    refine Sky.land Zc.steady frames hf (hs ▸ sky) fun g fly more => ?_
    exact clauses hs hf nd hi hn tk cl g ⟨I1.ofTry ok, fly, nb, up.trans more, new, os, bare⟩ hw
  · cases f with
    | ret u =>
      obtain ⟨v, σ1, H1, I1, r, q⟩ := hsp
      exact ⟨v, σ1, H1, I1.ofTry ok, r, q⟩
    | next =>
      obtain ⟨σ1, H1, I1, q⟩ := hsp
      exact wpAny_execs_nil ⟨σ1, H1, I1.ofTry ok, q⟩
    | brk =>
      obtain ⟨σ1, H1, I1, q⟩ := hsp
      exact ⟨σ1, H1, I1.ofTry ok, q⟩
    | cont =>
      obtain ⟨σ1, H1, I1, q⟩ := hsp
      exact ⟨σ1, H1, I1.ofTry ok, q⟩
end
end Pl

namespace Pl
open L2 PySem PySem.Spec PyProof.Rows
/-- the law is entered: tables (of code objects; cs: both) stand empty, nothing is being written out -/
theorem law_callM {P : Program} {w : World} {K : PySem.W.Frag} {mg mb : Str → Option Value} {k : Nat} {fa a : Addr} {cs : List (Addr × Addr)} {fd : FuncData} {x : Str} {sp : Sp} {t : Shared} {us : List Value} {ns : List Int}
    (kin : K.In t.heap) (gns : t.heap.Ns mainGlobals mg) (bns : t.heap.Ns builtinsNs mb) (bbt : ∀ y : Str, y ≠ "__name__" → mb y = bootBuiltins y) (nol : t.heap.NoLimit) (gen : t.gens = #[])
    (tab : ∀ q ∈ cs, t.heap.get? q.2 = some { cls := .none, data := .fields #[] }) (notK : ∀ q ∈ cs, K.lookup q.2 = none) (hc : ∀ q ∈ cs, PySem.W.CodeHd t.heap q.1 q.2)
    (bmn : ∃ (bm : Addr) (ob : Obj), mg "__builtins__" = some (.ref bm) ∧ bm ≠ builtinsNs ∧ t.heap.get? bm = some ob ∧ ob.cls = .type "module" ∧ ob.dict = some builtinsNs ∧ ob.data = .plain)
    (la : t.heap.get? a = some { cls := .type "list", data := .seq us.toArray }) (nums : IntsAre us ns) (short : ns.length ≤ sizeLine) (room : Room k callerA)
    (fn : ∀ base : Heap, K.In base → base.Ns mainGlobals mg → (∀ q ∈ cs, LamX.TabB base mg q.1 q.2) → FnG P w K mg base k fa fd [x] sp) (bind : ∀ (s : Shared) (u : Value), BindsTo s fd ⟨[u], []⟩ [(x, u)])
    (want : ∀ H : Hp, (∀ q ∈ cs, H q.2 = some (.tbl #[])) → SqL K H a (ns.map V.int) → sp [.ref a] H (fun v _ => v = .bl true) fun _ _ _ => True) :
    codeAny (model P w) callerA (.call (.ref fa) ⟨[.ref a], []⟩) (fun r s2 => r = .ok (.ret (.bool true)) ∧ OldK t.heap s2.heap ∧ s2.os = t.os ∧ AllBare s2.gens) t := by
  have rel := vals_ints nums
  have count := nums.length
  have at_ : ∀ b, (∃ q ∈ cs, b = q.2) → t.heap.get? b = some { cls := .none, data := .fields #[] } := fun b ⟨q, hq, e⟩ => e ▸ tab q hq
  have aPt : ¬ ∃ q ∈ cs, a = q.2 := fun e => by
    rw [at_ a e] at la
    have z : Data.fields #[] = Data.seq us.toArray := congrArg Obj.data (Option.some.inj la)
    cases z
  have main : ∀ H : Hp, (∀ q ∈ cs, H q.2 = some (.tbl #[])) → (∀ b, H b = none ∨ (∃ q ∈ cs, b = q.2) ∨ ∃ o xs, H b = some (.frz o (.lst xs))) → SqL K H a (ns.map V.int) → HOk P w H t.heap → (∀ b, H b ≠ none → b = a ∨ ∃ q ∈ cs, b = q.2) → (H a ≠ none → K.lookup a = none) →
      codeAny (model P w) callerA (.call (.ref fa) ⟨[.ref a], []⟩) (fun r s2 => r = .ok (.ret (.bool true)) ∧ OldK t.heap s2.heap ∧ s2.os = t.os ∧ AllBare s2.gens) t := by
    intro H hPt kinds seq ok only free
    have look : ∀ {b : Addr} {o : Obj}, t.heap.get? b = some o → H b = none → (hidT t.heap H).get? b = some o := fun {b o} e n => hidT_get e n
    have off : ∀ {b : Addr} {o : Obj}, t.heap.get? b = some o → (∀ ws n, o.data ≠ .seq ws n) → o.data ≠ .fields #[] → H b = none := fun {b o} e n1 n2 => by
      cases hb : H b with
      | none => rfl
      | some u =>
        rcases only b (by rw [hb]; simp) with rfl | isT
        · rw [la] at e
          cases e
          exact absurd rfl (n1 _ _)
        · rw [at_ b isT] at e
          cases e
          exact absurd rfl n2
    have nspace : ∀ {b : Addr} {m : Str → Option Value}, t.heap.Ns b m → (hidT t.heap H).Ns b m := fun {b m} ⟨o, es, ep, e, d, r⟩ =>
      ⟨o, es, ep, look e (off e (fun ws n z => by rw [d] at z; cases z) fun z => by rw [d] at z; cases z), d, r⟩
    have kbase : K.In (hidT t.heap H) := fun b o e => look (kin b o e) (by
      cases hb : H b with
      | none => rfl
      | some u =>
        rcases only b (by rw [hb]; simp) with rfl | ⟨q, hq, rfl⟩
        · rw [free (by rw [hb]; simp)] at e
          cases e
        · rw [notK q hq] at e
          cases e)
    obtain ⟨mc, l1, l2⟩ := nol
    have modu : L2.Mod K mg (hidT t.heap H) := ⟨kbase, nspace gns, ⟨mb, nspace bns, bbt⟩, mc, nspace l1, l2⟩
    have tabs : ∀ q ∈ cs, LamX.TabB (hidT t.heap H) mg q.1 q.2 := fun q hq => by
      have tabq := tab q hq
      obtain ⟨oc, fs, file, tf, flags, tg, inF, text, tt, e1, r1, r2, r3, r4, r5, r6, r7, r8, r9⟩ := id (hc q hq)
      obtain ⟨bm, ob, b1, b2, b3, b4, b5, b6⟩ := bmn
      obtain ⟨og, eg, epg, g1, g2, _⟩ := id gns
      refine ⟨⟨oc, fs, file, tf, flags, tg, inF, text, tt, look e1 (off e1 (fun ws n z => ?_) fun z => ?_), r1, r2, r3, r4, r5, r6, r7, r8, r9⟩, ⟨bm, ob, b1, b2, fun z => ?_, fun z => ?_, look b3 (off b3 (fun ws n z => ?_) fun z => ?_), b4, b5, b6⟩, fun z => ?_⟩
      · rw [r2] at z
        cases z
      · rw [r2] at z
        cases z
        simp at r3
      · rw [z, g1] at b3
        cases b3
        rw [g2] at b6
        cases b6
      · rw [z, tabq] at b3
        cases b3
        cases b6
      · rw [b6] at z
        cases z
      · rw [b6] at z
        cases z
      · rw [z, tabq] at g1
        cases g1
        cases g2
    have env : Env0 P w K mg (hidT t.heap H) callerA [] t H := ⟨rfl, modu, fun b o e => of_hidT e, Nat.le_of_eq (hidT_size _ _), trivial, (fun b hb => absurd (show b ∈ ([] : List Addr) from hb) List.not_mem_nil), ok, .of_eq gen⟩
    refine codeAny_mono ((fn _ kbase (nspace gns) tabs).run callerA [] t H ⟨[.ref a], []⟩ [.ref a] [.ref a] _ _ rfl room env (bind t (.ref a)) (.cons rfl .nil) (want H hPt seq)) ?_
    intro r s2 hr
    match r, hr with
    | .error _, hr => exact False.elim hr
    | .ok .next, hr => exact False.elim hr
    | .ok .brk, hr => exact False.elim hr
    | .ok .cont, hr => exact False.elim hr
    | .ok (.ret u), ⟨v, H2, os, bare, un, ok2, ru, ev⟩ =>
      obtain rfl : v = .bl true := ev
      obtain rfl : u = Value.bool true := ru
      have stay : ∀ b o, (¬ ∃ q ∈ cs, b = q.2) → t.heap.get? b = some o → s2.heap.get? b = some o := fun b o nb e => by
        rcases kinds b with hb | hb | ⟨ob, xs, hb⟩
        · exact un.keep b o e hb (fun z => absurd (show b ∈ ([] : List Addr) from z) List.not_mem_nil) (by simp)
        · exact absurd hb nb
        · obtain ⟨i1, _⟩ := ok b _ hb
          obtain ⟨i2, _⟩ := ok2 b _ (un.frzs b ob _ hb)
          rw [e] at i1
          cases i1
          exact i2
      have now : ∀ q ∈ cs, ∃ more : Array Value, s2.heap.get? q.2 = some { cls := .none, data := .fields (#[] ++ more) } := fun q hq => by
        obtain ⟨more, grow⟩ := un.tbls q.2 #[] (hPt q hq)
        exact ⟨more, ok2 q.2 _ grow⟩
      refine ⟨rfl, ⟨fun b o e => ?_, fun b o e => ?_⟩, os, bare⟩; skip
      · by_cases hb : ∃ q ∈ cs, b = q.2
        · obtain ⟨q, hq, rfl⟩ := hb
          obtain ⟨more, hm⟩ := now q hq
          have tabq := tab q hq
          rw [tabq] at e
          cases e
          exact .inr (.inl ⟨((hc q hq).tab tabq).isCodeTable, rfl, #[], more, rfl, hm⟩)
        · exact .inl (stay b o hb e)
      · by_cases hb : ∃ q ∈ cs, b = q.2
        · obtain ⟨q, hq, rfl⟩ := hb
          obtain ⟨more, hm⟩ := now q hq
          exact ⟨_, hm⟩
        · exact ⟨o, stay b o hb e⟩
  cases hk : K.lookup a with
  | some o =>
    have e := kin a o hk
    rw [la] at e
    cases e
    refine main (fun b => if ∃ q ∈ cs, b = q.2 then some (.tbl #[]) else none) (fun q hq => if_pos ⟨q, hq, rfl⟩) (fun b => ?_) (.inr ⟨_, us.toArray, _, hk, rfl, rfl, rfl, by rw [List.size_toArray, count]; exact short, by simpa using rel⟩) (fun b u z => ?_) (fun b z => ?_) fun z => absurd (if_neg aPt) z
    · by_cases hb : ∃ q ∈ cs, b = q.2
      · exact .inr (.inl hb)
      · exact .inl (if_neg hb)
    · by_cases hb : ∃ q ∈ cs, b = q.2
      · have z2 := (if_pos hb).symm.trans z
        cases z2
        exact at_ b hb
      · have z2 := (if_neg hb).symm.trans z
        cases z2
    · by_cases hb : ∃ q ∈ cs, b = q.2
      · exact .inr hb
      · exact absurd (if_neg hb) z
  | none =>
    refine main (fun b => if b = a then some (.frz { cls := .type "list", data := .seq us.toArray } (.lst (ns.map V.int))) else if ∃ q ∈ cs, b = q.2 then some (.tbl #[]) else none) (fun q hq => (if_neg (fun e => aPt ⟨q, hq, e.symm⟩)).trans (if_pos ⟨q, hq, rfl⟩)) (fun b => ?_) (.inl (.inr ⟨_, if_pos rfl⟩)) (fun b u z => ?_) (fun b z => ?_) fun _ => hk
    · by_cases h1 : b = a
      · exact .inr (.inr ⟨_, _, if_pos h1⟩)
      · by_cases h2 : ∃ q ∈ cs, b = q.2
        · exact .inr (.inl h2)
        · exact .inl ((if_neg h1).trans (if_neg h2))
    · by_cases h1 : b = a
      · have z2 := (if_pos h1).symm.trans z
        cases z2
        rw [h1]
        exact ⟨la, by rw [List.length_map]; exact short, us, _, rel, la⟩
      · have z2 := (if_neg h1).symm.trans z
        by_cases h2 : ∃ q ∈ cs, b = q.2
        · have z3 := (if_pos h2).symm.trans z2
          cases z3
          exact at_ b h2
        · have z3 := (if_neg h2).symm.trans z2
          cases z3
    · by_cases h1 : b = a
      · exact .inl h1
      · by_cases h2 : ∃ q ∈ cs, b = q.2
        · exact .inr h2
        · exact absurd ((if_neg h1).trans (if_neg h2)) z
/-- what the top leaves of the law: T, the tables with the names of what is made there -/
def LawM (l : PySem.W.OpenLaw) (w : World) (K : PySem.W.Frag) (mg : Str → Option Value) (fa : Addr) (h : Heap) (k : Nat) (sp : List (Addr × Addr) → Sp) : Prop :=
  ∃ (fd : FuncData) (cs : List (Addr × Addr)), (∀ q ∈ cs, h.get? q.2 = some { cls := .none, data := .fields #[] }) ∧ (∀ q ∈ cs, K.lookup q.2 = none) ∧ (∀ q ∈ cs, PySem.W.CodeHd h q.1 q.2) ∧ (∀ (s : Shared) (u : Value), BindsTo s fd ⟨[u], []⟩ [("_law_script", u)]) ∧
    ∀ base : Heap, K.In base → base.Ns mainGlobals mg → (∀ q ∈ cs, LamX.TabB base mg q.1 q.2) → FnG l.prog w K mg base k fa fd ["_law_script"] (sp cs)
theorem walkM {l : PySem.W.OpenLaw} {n k : Nat} {qp : Program} {loose : List Str} {XP : (Str → Option Value) → Heap → Prop} {YP : World → Heap → Prop} {d : DefRec} {K : Params → PySem.W.Frag} {sp : World → List (Addr × Addr) → Sp}
    (hn : l.most = some n) (hn2 : n ≤ sizeLine) (hdf : d.params.defaults = []) (room : Room k callerA) (hY : ∀ (w : World) (h : Heap), YP w h → (K w.params).In h)
    (want : ∀ (w : World) (cs : List (Addr × Addr)) (H : Hp) (a : Addr) (ns : List Int), (∀ q ∈ cs, H q.2 = some (.tbl #[])) → SqL (K w.params) H a (ns.map V.int) → sp w cs [.ref a] H (fun v _ => v = .bl true) fun _ _ _ => True)
    (F : ∀ (w : World) (mg : Str → Option Value) (fa : Addr) (h : Heap), YP w h → (K w.params).In h → h.Ns mainGlobals mg → mg d.name = some (.ref fa) → LawM l w (K w.params) mg fa h k (sp w)) :
    PySem.W.WalkO qp loose XP YP l.row.toRowW d [] (fun f vs => PySem.call f vs) := by
  refine Att.attach_callB hn hdf ?_
  intro w s₀ s₁ mg mb fa o pm cd doc a vs ns G Y ho hd hcd hmg hobj hints hlen hbits hg
  obtain ⟨fd, cs, tab, notK, hc, bind, fn⟩ := F w mg fa _ Y (hY w _ Y) G.T.g hmg
  exact law_callM (hY w _ Y) G.T.g G.T.b G.T.builtins G.T.nolimit hg tab notK hc G.T.bmain hobj hints (Nat.le_trans hlen hn2) room fn bind fun H hPt seq => want w cs H a ns hPt seq
end Pl

namespace Pl
open L2 PySem PySem.Spec PyProof.Rows
set_option maxHeartbeats 4100000 in
/-- enumerate(v) of anything that begins so -/
theorem meets_enumB {v : Value} {o : Obj} {Hb : Heap → Prop} (B : Begins v o Hb) :
    Meets (Builtin.«enumerate.__new__» ⟨[.type "enumerate", v], []⟩) (fun _ R s => Hb s.heap ∧
      R (.ok (.ret (.ref (s.heap.push o).objs.size))) { s with heap := (s.heap.push o).push { cls := .type "enumerate", data := .fields #[.none, .bool false, .ref s.heap.objs.size, rawInt 0, .none, .none] } }) := by
  refine .of_wp ?_
  rintro prog w A R ⟨hp, gn, dr, tk, os⟩ ⟨h1, goal⟩
  have isub := sub_enumerate
  have first_ : ∀ {A' : Around} {E : Value → Shared → Prop} {Q : Value → Shared → Prop}, Q (.ref hp.objs.size) ⟨hp.push o, gn, dr, tk, os⟩ → wpAny (model prog w) A' (pyIter v) Q E ⟨hp, gn, dr, tk, os⟩ := fun q => B.iter prog w _ _ ⟨hp, gn, dr, tk, os⟩ _ h1 q
  wp_walk using first_
  refine wpAny_stack_any fun st => wpAny_pure ?_; skip
  split
  · rename_i c _ _ _ _ _
    cases (c == Value.type "enumerate") <;> (wp_walk using first_; exact ⟨_, rfl, goal⟩)
  · wp_walk using first_
    exact ⟨_, rfl, goal⟩
theorem enum_new {prog : Program} {w : World} {A : Around} {E : Value → Shared → Prop} {s : Shared} {v : Value} {o : Obj} {Hb : Heap → Prop} {Q : Value → Shared → Prop} (B : Begins v o Hb) (h1 : Hb s.heap)
    (q : ∀ g, IsEnum g (s.heap.objs.size + 1) s.heap.objs.size 0 .none → g.get? s.heap.objs.size = some o → (∀ b u, s.heap.get? b = some u → g.get? b = some u) → Q (.ref (s.heap.objs.size + 1)) { s with heap := g }) :
    wpAny (model prog w) A (call (.type "enumerate") [v]) Q E s := by
  refine callType_new F.called_enumerate (by decide) (F.typeCall_enumerate_1 _) (F.newCall_enumerate_1 _) (fun obj => F.args_object_init_2 obj _) F.entry_enumerate_new (meets_enumB B) ⟨h1, ?_⟩
  have size : (s.heap.push o).objs.size = s.heap.objs.size + 1 := Heap.size_push ..
  have at_ := Heap.get?_push_size (s.heap.push o) (o := { cls := .type "enumerate", data := .fields #[.none, .bool false, .ref s.heap.objs.size, rawInt 0, .none, .none] }) rfl
  rw [size] at at_
  show _ ∧ _
  rw [size]
  exact ⟨⟨_, at_, rfl⟩, q _ at_ (Heap.get?_push_of_some _ (Heap.get?_push_size _ B.free)) fun b u e => Heap.get?_push_of_some _ (Heap.get?_push_of_some _ e)⟩
/-- the tuple at a, each item with its number in a new pair -/
def Iet (K : PySem.W.Frag) (a : Addr) : It :=
  ⟨fun i H => ∃ (xs : List V) (x : V), SqT K H a xs ∧ xs[i]? = some x, fun i H v G => ∃ T x, v = .ref T ∧ H T = none ∧ G = upd H T (.tup [.int (i : Nat), x]) ∧ ∀ xs, SqT K H a xs → xs[i]? = some x, fun i H => ∃ xs : List V, SqT K H a xs ∧ xs.length = i⟩
theorem turn_enumT {P : Program} {w : World} {K : PySem.W.Frag} {elts : List Expr} {kk : Nat} {tpos : Pos} (a e it : Addr) :
    Turn P w K (.Tuple elts kk tpos) (Iet K a) [e, it] e (fun i h => (∃ old, IsEnum h e it ((i : Nat) : Int) old) ∧ h.IsTupleIter it a i ∧ e ≠ it ∧ a ≠ it ∧ a ≠ e) where
  mem := List.mem_cons_self
  obj := by
    rintro i h ⟨⟨old, he⟩, ⟨o, ho, hc, hd⟩, _⟩ b hb
    rcases List.mem_cons.mp hb with rfl | hb; skip
    · exact ⟨_, he, fun v q => nomatch q⟩
    · rw [List.mem_singleton.mp hb]; skip
      exact ⟨o, ho, fun v q => by rw [hd] at q; cases q⟩
  keep := by
    rintro i h g ⟨⟨old, he⟩, hit, n⟩ k
    exact ⟨⟨old, k e (by simp) _ he⟩, hit.at fun o q => k it (by simp) o q, n⟩
  item := by
    rintro X rfl rfl rfl hc i pins s σ H E I hf ⟨⟨old, he⟩, hit, n1, n2, n3⟩ ⟨xs, x, hq, hx⟩
    obtain ⟨its, rv, p, hz⟩ := I.tuple hq; skip
    obtain ⟨u, hu, ru⟩ := rv.get hx; skip
    have le : e < s.heap.objs.size := Heap.lt_size he
    have li : it < s.heap.objs.size := by
      obtain ⟨_, q, _⟩ := hit
      exact Heap.lt_size q
    have lt : i < its.toArray.size := by
      rw [List.size_toArray]
      exact (List.getElem?_eq_some_iff.mp hu).1
    refine wpAny_pyNext_enum_itemD (Draws.tuple (A := X.A.in1) (I.ok.hd hc) it a n2 its.toArray) he ⟨hit, p⟩ lt n1 (by simp [n1, n3.symm]) fun y g tk hy ho st hT size hk => ?_
    have ey : y = u := by
      have e1 : its[i]? = some y := by simpa using hy
      exact Option.some.inj (e1.symm.trans hu)
    subst ey
    refine ⟨_, rfl, wpAny_letOwnedTupleGo_enum (s := { s with heap := g, toks := tk + 1 }) ho fun g2 he2 sb => ?_⟩
    have hT2 : g2.get? s.heap.objs.size = some { cls := .type "tuple", data := .seq #[.int i tk, y] } := (sb.2 _ (Nat.ne_of_gt le)).trans hT
    have new : ObjOk X.prog X.w (upd H s.heap.objs.size (.tup [.int (i : Nat), x])) g2 s.heap.objs.size (.tup [.int (i : Nat), x]) := ⟨by show 2 ≤ sizeLine; decide, [.int i tk, y], .cons ⟨_, rfl⟩ (.cons ru .nil), ⟨_, hT2, rfl, _, rfl⟩⟩
    have I1 : Inv X pins σ (upd H s.heap.objs.size (.tup [.int (i : Nat), x])) { s with heap := g2, toks := tk + 1 } :=
      I.turnedNew (ch := [e, it])
        (fun b ob hb q => (sb.2 b (fun z => hb (by simp [z]))).trans (hk b ob (fun z => hb (by simp [z])) (fun z => hb (by simp [z])) q)) hf (Nat.le_refl _) new
    refine ⟨.ref s.heap.objs.size, _, I1, rfl, ⟨_, x, rfl, I.hok.fresh (Nat.le_refl _), rfl, fun ys hy => ?_⟩, ⟨⟨y, ?_⟩, st.1.at fun o q => (sb.2 it (Ne.symm n1)).trans q, n1, n2, n3⟩, fun b hb => ?_⟩
    · rw [I.tuple_inj hy hq]
      exact hx
    · rw [show ((i + 1 : Nat) : Int) = (i : Int) + 1 from by omega]
      exact he2
    · have lb : b < s.heap.objs.size := by
        rcases List.mem_cons.mp hb with rfl | hb; skip
        · exact le
        · rw [List.mem_singleton.mp hb]; skip
          exact li
      rw [upd_ne (Nat.ne_of_lt lb)]
      exact (hf b hb).1
  done := by
    rintro X rfl rfl rfl hc i pins s σ H E I hf ⟨⟨old, he⟩, hit, n1, n2, n3⟩ ⟨xs, hq, hx⟩
    obtain ⟨its, rv, p, hz⟩ := I.tuple hq; skip
    obtain ⟨f0, f1, f2, f3, f4, f5⟩ := hf it (by simp); skip
    have len : its.toArray.size = i := by
      rw [List.size_toArray, ← rv.length]
      exact hx
    subst len
    exact wpAny_pyNext_enum_endD (Draws.tuple (A := X.A.in1) (I.ok.hd hc) it a n2 its.toArray) he ⟨hit, p⟩ fun g eb => ⟨rfl, I.turned (t' := s.toks) (fun b o hb q => eb b o hb q) f0 f1 f3 f4 f5⟩
  self := fun A i s Q E st hh => let ⟨⟨_, he⟩, _⟩ := st; wpAny_pyIter_enum he hh
def iEnumT (K : PySem.W.Frag) (ta : TA) : TI := fun σ H R => ta σ H fun vs H1 => ∃ a xs, vs = [.ref a] ∧ SqT K H1 a xs ∧ R (Iet K a) H1
theorem pi_enumT {X : Cx} {e : Expr} {ta : TA} {p pos tpos : Pos} {elts : List Expr} {kk : Nat} (hg : Gl X "enumerate") (hm : X.mg "enumerate" = none) (ha : PA X [e] ta) (hs : (starEach [e] X.env = [(false, eval e X.env)]) := by rfl) :
    PI X (.Tuple elts kk tpos) (.Call (.Name "enumerate" p) [e] [] pos) (iEnumT X.K ta) := by
  constructor
  intro pins s σ H R I h
  refine Call_ (ld_blt I hg hm boot_enumerate (PyProof.Rows.callWith_type1 (thn (ha.run pos pins s σ H _ I h) ?_) hs rfl))
  rintro us s1 ⟨vs, H1, I1, r1, a, xs, rfl, hq, q⟩
  obtain ⟨u, rfl, ru⟩ := vals1 r1; skip
  cases ru
  obtain ⟨its, rv, pt, hz⟩ := I1.tuple hq; skip
  refine enum_new (begins_tuple a its.toArray) pt fun g he hi hk => wpAny_pyIter_enum he ?_
  have la : a < s1.heap.objs.size := by
    obtain ⟨o, ho, _⟩ := pt
    exact Heap.lt_size ho
  refine ⟨s1.heap.objs.size + 1, [s1.heap.objs.size + 1, s1.heap.objs.size], _, _, H1, rfl, I1.kept (t' := s1.toks) hk, turn_enumT a (s1.heap.objs.size + 1) s1.heap.objs.size, ⟨⟨.none, he⟩, ⟨_, hi, rfl, rfl⟩, Nat.succ_ne_self _, Nat.ne_of_lt la, Nat.ne_of_lt (Nat.lt_succ_of_lt la)⟩, fun b hb => ?_, q⟩
  have le : s1.heap.objs.size ≤ b := by
    rcases List.mem_cons.mp hb with rfl | hb; skip
    · exact Nat.le_succ _
    · rw [List.mem_singleton.mp hb]; skip
      exact Nat.le_refl _
  exact I1.fpOk le (I1.hok.fresh le)
theorem walk_enumT {K : PySem.W.Frag} {a : Addr} {xs : List V} : Walk (Iet K a) xs.length (fun H => SqT K H a xs) (YPair (fun i => some (.int (i : Nat))) (fun i => xs[i]?)) := by
  refine ⟨fun i _ hi q => ⟨xs, xs[i], q, by simp [hi]⟩, fun _ q => ⟨xs, q, rfl⟩, ?_⟩
  rintro i H v H' _ q ⟨T, x, h1, h2, h3, h4⟩
  exact ⟨T, .int (i : Nat), x, h1, h2, h3, rfl, h4 xs q⟩; skip
end Pl

namespace Pl
open PySem PySem.Spec PyProof.Rows L2 PySem.W
/-! ### set(a list of tuples of ints), of which few are unlike -/
theorem few_of {α : Type} [BEq α] [LawfulBEq α] : ∀ {l D : List α}, l.Nodup → (∀ x ∈ l, x ∈ D) → l.length ≤ D.length
  | [], _, _, _ => Nat.zero_le _
  | x :: l, D, hn, hs => by
    have q := List.nodup_cons.mp hn
    have ih := few_of (l := l) (D := D.erase x) q.2 fun y hy => (List.mem_erase_of_ne fun (e : y = x) => q.1 (e ▸ hy)).2 (hs y (List.mem_cons_of_mem _ hy))
    have hx : x ∈ D := hs x List.mem_cons_self; skip
    have e := List.length_erase_of_mem hx; skip
    have hp : 0 < D.length := List.length_pos_of_mem hx; skip
    rw [List.length_cons]
    omega
abbrev AT := Addr × List Int
section
variable {P : Program} {w : World} {I : Addr} {fp wr : List Addr} {G : Array GenState → Array GenState → Prop} {n : Nat} {V0 : Nat → Value → Prop} {St : Nat → Shared → Prop}
/-- some set stands that has got the first i -/
def HasT (P : Program) (w : World) (S : Addr) (ks : List AT) (i : Nat) (h : Heap) : Prop := ∃ L es ep t, SetTR P w h S L es ep t ∧ Got ks i L
theorem HasT.few {S : Addr} {ks pool : List AT} {i : Nat} {h : Heap} {L : List AT} {es : Array (Int × Value)} {ep : Nat} {t : SetTable} (R : SetTR P w h S L es ep t) (g : Got ks i L) {D : List (List Int)} (hD : ∀ p ∈ ks, p.2 ∈ D) : L.length ≤ D.length := by
  have e : (L.map (·.2)).length = L.length := List.length_map _
  rw [← e]
  refine few_of R.nd fun x hx => ?_
  obtain ⟨p, hp, rfl⟩ := List.mem_map.mp hx
  exact hD p (List.mem_of_mem_take (g.sub p hp))
theorem fill_tups (S : Addr) (ks : List AT) (D : List (List Int)) (hD : ∀ p ∈ ks, p.2 ∈ D) (h63 : D.length < 63) (hn : ks.length = n) (hV : ∀ i v, V0 i v → ∃ p, ks[i]? = some p ∧ v = .ref p.1) (h0 : Heap) (hk : ∀ p ∈ ks, IsT P w h0 p.2 p.1) (hS0 : h0.get? S = none) :
    ∀ (j i : Nat) (A : Around) (R : Result → Shared → Prop) (s : Shared) (W : WalksS P w A.in1 I fp wr G n V0 St), (∀ b ∈ wr, h0.get? b = none) → A.in1.units < cLine → S ∉ fp → n - i = j → i ≤ n → St i s → (∀ b o, h0.get? b = some o → s.heap.get? b = some o) → HasT P w S ks i s.heap →
      (∀ s', Moved (S :: wr) G s s' → HasT P w S ks n s'.heap → (∀ b o, h0.get? b = some o → s'.heap.get? b = some o) → R (.ok (.ret .none)) s') →
      (codeAny (model P w) A (.builtin "set.update.loop" ⟨[.ref S, .ref I], []⟩) R s) := by
  intro j
  induction j with
  | zero =>
    intro i A R s W hw hu hS hj hi st kp so hR
    obtain rfl : i = n := by omega
    have nw : S ∉ wr := fun h => hS (W.sub _ h)
    refine codeAny_builtin F.entry_set_update_loop ?_; skip
    rw [Around.under_plainId F.plain_set_update_loop _]; skip
    show wpAny _ A.in1 (pyNext (.ref I) >>= _) _ _ s; skip
    refine wpAny_bind (W.done s _ _ st fun s' mv => wpAny_pure ?_)
    have kp' : ∀ b o, h0.get? b = some o → s'.heap.get? b = some o := fun b o e => mv.heap b o (fun hb => by rw [hw b hb] at e; cases e) (kp b o e)
    obtain ⟨L, es, ep, t, T, g⟩ := so
    exact hR s' (mv.mono fun b hb => List.mem_cons_of_mem _ hb) ⟨L, es, ep, t, T.keep (fun o e => mv.heap S o nw e) fun p hp => isT_keep (hk p (List.mem_of_mem_take (g.sub p hp))) kp', g⟩ kp'
  | succ j ih =>
    intro i A R s W hw hu hS hj hi st kp so hR
    have nw : S ∉ wr := fun h => hS (W.sub _ h)
    have lt : i < n := by omega
    refine codeAny_builtin F.entry_set_update_loop ?_; skip
    rw [Around.under_plainId F.plain_set_update_loop _]; skip
    show wpAny _ A.in1 (pyNext (.ref I) >>= _) _ _ s; skip
    refine wpAny_bind (W.item i s _ _ lt st fun v s' pv st' mv => ?_)
    obtain ⟨k, ek, rfl⟩ := hV i v pv
    have kp' : ∀ b o, h0.get? b = some o → s'.heap.get? b = some o := fun b o e => mv.heap b o (fun hb => by rw [hw b hb] at e; cases e) (kp b o e)
    obtain ⟨L, es, ep, t, T0, g⟩ := so
    have T := T0.keep (fun o e => mv.heap S o nw e) fun p hp => isT_keep (hk p (List.mem_of_mem_take (g.sub p hp))) kp'
    have hx := isT_keep (hk k (List.mem_of_getElem? ek)) kp'
    have fw := HasT.few (pool := ks) T g hD
    show wpAny _ A.in1 (holding [Value.ref k.1] (setAdd S (.ref k.1)) >>= _) _ _ s'
    refine wpAny_bind (wpAny_holding ?_); skip
    unfold setAdd
    refine wpAny_holding (wpAny_bind (wpAny_pyHash_tuple hu hx ?_))
    refine add_at (s := { s' with toks := s'.toks + (k.2.length + 1) }) T hx hu (by omega) fun b h' L' es' ep' t' sb T2 c1 c2 => ?_
    have g' : Got ks (i + 1) L' := by
      by_cases c : k.2 ∈ L.map (·.2)
      · rw [c1 c]
        exact g.same ek c
      · exact g.more ek (c2 c)
    have kp2 : ∀ b o, h0.get? b = some o → h'.get? b = some o := fun b o e => by
      rw [sb.2 b (fun z => by rw [z, hS0] at e; cases e)]
      exact kp' b o e
    refine wpAny_pure ⟨plainId_quiet F.plain_set_update_loop _, ih (i + 1) A R _ W hw hu hS (by omega) lt (W.frame _ s' _ _ st' (Nat.le_add_right _ _) fun b hb o e => ?_) kp2 ⟨L', es', ep', t', T2, g'⟩ fun s2 mv2 so4 kp4 => ?_⟩
    · rw [sb.2 b (fun q => hS (by rw [← q]; exact hb))]
      exact e
    · refine hR s2 (Moved.trans W.gtrans ((mv.mono fun b hb => List.mem_cons_of_mem _ hb).then_heap (Nat.le_add_right _ _) fun b o hb e => ?_) mv2) so4 kp4
      rw [sb.2 b (fun q => hb (by rw [q]; exact List.mem_cons_self))]
      exact e
end
section
variable {P : Program} {w : World} {s : Shared} {E : Value → Shared → Prop} {A : Around}
theorem set_many {l : Addr} {items : Array Value} {ks : List AT} {Q : Value → Shared → Prop} (D : List (List Int)) (hD : ∀ p ∈ ks, p.2 ∈ D) (h63 : D.length < 63) (hh : A.handled = none) (hl : s.heap.IsList l items) (hit : items.toList = ks.map fun p => Value.ref p.1) (hk : ∀ p ∈ ks, IsT P w s.heap p.2 p.1) (hu : A.units + 3 < cLine)
    (q : ∀ (g : Heap) (tk : Nat), HasT P w s.heap.objs.size ks ks.length g → (∀ b o, s.heap.get? b = some o → g.get? b = some o) → Q (.ref s.heap.objs.size) { s with heap := g, toks := tk }) :
    (wpAny (model P w) A (call (.type "set") [.ref l]) Q E s) := by
  have hsz : ks.length = items.size := by
    have e := congrArg List.length hit
    rw [List.length_map, Array.length_toList] at e
    exact e.symm
  obtain ⟨c, tl, hmro⟩ := PySem.F.called_set.mro; skip
  have a1 := PySem.F.called_set.made
  have a2 := PySem.F.called_set.sub
  have a3 := PySem.F.called_set.notType
  have a4 := PySem.F.called_set.canCreate
  have a5 := PySem.F.typeCall_set_1 (.ref l)
  refine wpAny_call (codeAny_of_tree ?_); skip
  show wpAny _ _ (callAny (.type "set") _) _ _ _; skip
  refine wpAny_pure ⟨Code.quiet_builtin _ (by decide +kernel), codeAny_builtin PySem.F.entry_type_call ?_⟩; skip
  rw [Around.under_plain (weight_type_call_type "set" [.ref l] []) rfl]; skip
  repeat (any_goals (first | assumption | wp_step)); skip
  refine codeAny_mono (code_set_led1 (.ref l) (E := E) (Q₁ := fun ob t => ob = .ref s.heap.objs.size ∧ t = { s with heap := s.heap.push { cls := .type "set", dict := none, data := .set #[] 0 (.fresh 0 0 (!w.params.followText "set-order")) } }) ⟨rfl, rfl⟩) fun r t hr => ?_
  match r, hr with
  | .error e, hr => exact hr
  | .ok (.ret ob), ⟨e1, e2⟩ =>
    subst e1
    subst e2
    generalize hld : (!w.params.followText "set-order") = led
    have new : (s.heap.push { cls := .type "set", dict := none, data := .set #[] 0 (.fresh 0 0 led) }).get? s.heap.objs.size = some { cls := .type "set", dict := none, data := .set #[] 0 (.fresh 0 0 led) } := Heap.get?_push_size _ rfl
    have ty : Shared.TypeIs { s with heap := s.heap.push { cls := .type "set", dict := none, data := .set #[] 0 (.fresh 0 0 led) } } (.ref s.heap.objs.size) "set" := ⟨_, new, rfl⟩
    have b1 := PySem.F.called_set.init.lookup
    have b2 := PySem.F.called_set.init.bind (.ref s.heap.objs.size)
    repeat (any_goals (first | assumption | wp_step)); skip
    refine codeAny_mono (codeAny_call_builtin (R := wants (fun r t => r = .none ∧ ∃ g tk, t = { s with heap := g, toks := tk } ∧ HasT P w s.heap.objs.size ks ks.length g ∧
      (∀ b o, s.heap.get? b = some o → g.get? b = some o)) E) PySem.F.called_set.init.plain PySem.F.entry_set_init (check_set_init_1 ty ?_)) fun r2 t2 hr2 => ?_
    · obtain ⟨o, ho, hc, k, hd⟩ := hl
      obtain ⟨oc, od, odt, osl⟩ := o; skip
      simp only at hc hd
      subst hc
      subst hd
      have ho' : (s.heap.push { cls := .type "set", dict := none, data := .set #[] 0 (.fresh 0 0 led) }).get? l = some { cls := .type "list", dict := od, data := .seq items k, slots := osl } := Heap.get?_push_of_some _ ho
      have c1 := PySem.F.sub_list_set
      have c2 := PySem.F.sub_list_frozenset
      have c3 : (Value.type "list" == Value.type "dict") = false := by decide
      have il : (s.heap.push { cls := .type "set", dict := none, data := .set #[] 0 (.fresh 0 0 led) }).IsList l items := ⟨_, ho', rfl, k, rfl⟩
      unfold Builtin.«set.__init__» noKeywords Builtin.Frozenset.updateFrom; skip
      generalize hPI : pyIter = PI
      wp_walk
      subst hPI
      refine wpAny_pyIter_list il (wpAny_bind (wpAny_runValue ?_))
      have lt : l < s.heap.objs.size := Heap.lt_size ho
      have nI : l ≠ (s.heap.push { cls := .type "set", dict := none, data := .set #[] 0 (.fresh 0 0 led) }).objs.size := by
        rw [Heap.size_push]
        exact Nat.ne_of_lt (Nat.lt_succ_of_lt lt)
      have nS : s.heap.objs.size ∉ [(s.heap.push { cls := .type "set", dict := none, data := .set #[] 0 (.fresh 0 0 led) }).objs.size, l] := by
        rw [Heap.size_push, List.mem_cons, List.mem_singleton]
        rintro (z | z)
        · exact absurd z (Nat.ne_of_lt (Nat.lt_succ_self _))
        · exact absurd z (Nat.ne_of_gt lt)
      have none_of : ∀ b, s.heap.objs.size ≤ b → s.heap.get? b = none := fun b hb => Heap.get?_none_of_le hb
      refine fill_tups (n := items.size) s.heap.objs.size ks D hD h63 hsz (fun i v hv => ?_) s.heap hk (none_of _ (Nat.le_refl _)) (items.size - 0) 0 _ _ _ ((Walks.list (by simpa using hh) _ l nI items).toS) (fun b hb => none_of b (by
          rw [List.mem_singleton.mp hb, Heap.size_push]; skip
          exact Nat.le_succ _)) hu nS (by omega) (Nat.zero_le _) ⟨⟨_, Heap.get?_push_size _ rfl, rfl, rfl⟩, il.push _⟩ (fun b o e => Heap.get?_push_of_some _ (Heap.get?_push_of_some _ e)) ?_ fun t mv so kp => ?_
      · have hv' : items.toList[i]? = some v := by
          rw [Array.getElem?_toList]
          exact hv
        rw [hit, List.getElem?_map] at hv'
        cases e : ks[i]? with
        | none =>
          rw [e] at hv'
          cases hv'
        | some p =>
          rw [e] at hv'
          exact ⟨p, rfl, (Option.some.inj hv').symm⟩
      · have g0 : ((s.heap.push { cls := .type "set", dict := none, data := .set #[] 0 (.fresh 0 0 led) }).push { cls := .type "list_iterator", data := .fields #[.ref l, .int 0 0] }).get? s.heap.objs.size = some { cls := .type "set", dict := none, data := .set #[] 0 (.fresh 0 0 led) } := Heap.get?_push_of_some _ new
        rw [← hld] at g0
        have := setTR_fresh (P := P) g0
        rw [hld] at this
        exact ⟨[], #[], 0, _, this, Got.zero ks⟩
      · obtain ⟨g, gs, d, tk, os⟩ := t
        obtain rfl : gs = s.gens := mv.gens
        obtain rfl : d = s.drawn := mv.drawn
        obtain rfl : os = s.os := mv.os
        show wpAny _ _ _ _ _ _
        refine wpAny_pure ?_
        show wpAny _ _ (ret Value.none) _ _ _; skip
        rw [← hsz] at so
        exact wpAny_pure ⟨rfl, g, tk, rfl, so, kp⟩
    · match r2, hr2 with
      | .error e, hr2 => exact hr2
      | .ok (.ret v), ⟨e1, g, tk, e2, so, kp⟩ =>
        subst e1
        subst e2
        repeat (any_goals (first | assumption | wp_step)); skip
        exact q _ _ so kp
end
end Pl

namespace Pl
open PySem PySem.Spec PyProof.Rows L2 PySem.W PySem.SeqAt
/-! ### the sort of tuples, of which some may be empty -/
section
variable {prog : Program} {w : World} {s : Shared} {E : Value → Shared → Prop} {A : Around}
theorem call_tup_lt {Q : Value → Shared → Prop} {l b : Addr} {items items2 : Array Value} {e r : Nat → Bool} (hl : s.heap.IsTuple l items) (hb : s.heap.IsTuple b items2)
    (he : ∀ j (h1 : j < items.size) (h2 : j < items2.size), EqAt A.in1 s items[j] items2[j] (e j)) (hr : ∀ j (h1 : j < items.size) (h2 : j < items2.size), e j = false → RcLt A.in1 s items[j] items2[j] (r j))
    (q : Q (.bool (firstLt e r (decide (items.size < items2.size)) (List.range (min items.size items2.size)))) s) : (wpAny (model prog w) A (call (.builtin "tuple.__lt__") [.ref l, .ref b]) Q E s) := by
  obtain ⟨⟨c1, d1, x1, y1⟩, o1, hc1, n1, hd1⟩ := id hl
  obtain ⟨⟨c2, d2, x2, y2⟩, o2, hc2, n2, hd2⟩ := id hb
  simp only at hc1 hd1 hc2 hd2
  subst hc1 hd1 hc2 hd2
  exact call_meets F.slot_tuple_lt ⟨_, o1, rfl⟩ F.entry_tuple_lt (F.args_tuple_lt_2 _ _) (tuple_ltAt l b items items2 n1 n2 d1 d2 y1 y2 e r) ⟨o1, o2, he, hr, q⟩
theorem one_tup {xs ys : List PyData} {a b : Value} {as bs : List Addr} {Q : Bool → Shared → Prop} (ra : Reads s.heap a (.tuple xs) as) (rb : Reads s.heap b (.tuple ys) bs) (hal : alikeAll xs ys = true)
    (hu : A.units + min (PyData.tuple xs).depth (PyData.tuple ys).depth < cLine) (hq : Q (dataLt (.tuple xs) (.tuple ys)) s) : wpAny (model prog w) A (oneLt' true a b) Q E s := by
  cases ra with
  | @tuple l o vs n _ as₁ h1 h2 h3 h4 =>
    cases rb with
    | @tuple l' o' vs' n' _ bs₁ k1 k2 k3 k4 =>
      have e1 : vs.size = xs.length := by simpa using ReadsAll.length _ _ _ h4
      have e2 : vs'.size = ys.length := by simpa using ReadsAll.length _ _ _ k4
      rw [dataLt_tuple, ← firstLt_toks xs ys hal, ← e1, ← e2] at hq
      rw [oneLt'_eq]
      simp only [if_true]
      refine wpAny_bind (wpAny_cRoomFor (room_here hu) ?_); skip
      refine wpAny_bind (wpAny_callSpecialIfBound?_slot (T := "tuple") ⟨_, h1, h2⟩ F.slot_tuple_lt (call_tup_lt (e := pairEq xs ys) (r := fun j => dataLt (xs.getD j .none) (ys.getD j .none)) ⟨_, h1, h2, _, h3⟩ ⟨_, k1, k2, _, k3⟩ (fun j j1 j2 => ?_) (fun j j1 j2 hj => ?_) ?_))
      · have z := eqAt_alikeAll xs ys A.in1 s vs.toList vs'.toList _ _ h4 k4 hal (room_in hu) j (by simpa using j1) (by simpa using j2)
        simpa using z
      · have z := rcLt_alikeAll xs ys A.in1 s vs.toList vs'.toList _ _ h4 k4 hal (room_in hu) j (by simpa using j1) (by simpa using j2) hj
        simpa using z
      · exact wpAny_truthy_bool hq
/-- an item at least -/
def neT : PyData → Bool
  | .tuple (_ :: _) => true
  | _ => false
theorem firsts_of {M : Model} : ∀ {vs : List Value} {ds : List PyData}, EachIs (fun v d => ∃ as, Reads s.heap v d as) vs ds → (∀ d, d ∈ ds → ∃ xs, d = .tuple xs) →
    ∃ fs : List (Option Value), (∀ (E : Value → Shared → Prop) (Q : List (Option Value) → Shared → Prop), Q fs s → wpAny M A (vs.mapM firstOfTuple') Q E s) ∧ fs.map (·.isSome) = ds.map neT
  | _, _, .nil, _ => ⟨[], fun E Q h => by rw [List.mapM_nil]; exact wpAny_pure h, rfl⟩
  | _, _, .cons (b := d) ⟨as, r⟩ t, ht => by
    obtain ⟨fs, h1, h2⟩ := firsts_of (M := M) t fun d hd => ht d (List.mem_cons_of_mem _ hd)
    obtain ⟨xs, rfl⟩ := ht d (List.mem_cons_self ..)
    cases r with
    | @tuple a o us n _ _ ho hc hd hr =>
      refine ⟨us[0]? :: fs, fun E Q h => ?_, ?_⟩
      · rw [List.mapM_cons]
        refine wpAny_bind ?_
        rw [kas_first_eq]
        refine wpAny_bind (Looks.here (show Looks M s.heap (typeOf (.ref a)) o.cls from (Looks.ld ho).andThen .now) ?_); skip
        rw [hc, if_neg (by first | decide | simp)]; skip
        refine wpAny_bind (listItems_at ho hd (wpAny_pure ?_)); skip
        exact wpAny_bind (h1 E (fun bs s' => wpAny M A (pure (us[0]? :: bs)) Q E s') (wpAny_pure h))
      · rw [List.map_cons, List.map_cons, h2]
        have e : (us[0]?).isSome = neT (.tuple xs) := by
          rw [← Array.getElem?_toList]
          cases q : us.toList with
          | nil =>
            rw [q] at hr
            cases hr
            rfl
          | cons f fr =>
            rw [q] at hr
            cases hr
            rfl
        rw [e]
theorem kind_of {M : Model} {vs : List Value} {ds : List PyData} (e : EachIs (fun v d => ∃ as, Reads s.heap v d as) vs ds) (ht : ∀ d, d ∈ ds → ∃ xs, d = .tuple xs) (hm : ¬ ∀ d, d ∈ ds → neT d = true) :
    ∃ kd, (kd = general' ∨ kd = oneType') ∧ ∀ (E : Value → Shared → Prop) (Q : SortKind → Shared → Prop), Q kd s → wpAny M A (keyKind' vs.toArray) Q E s := by
  obtain ⟨fs, h1, h2⟩ := firsts_of (A := A) (M := M) e ht
  have nall : (fs.toArray.all fun x => x.isSome) ≠ true := fun z => hm fun d hd => by
    have z2 : ∀ x ∈ fs, x.isSome = true := by simpa using z
    obtain ⟨i, hi⟩ := List.getElem?_of_mem hd
    have h3 : (fs.map (·.isSome))[i]? = some (neT d) := by rw [h2, List.getElem?_map, hi]; rfl
    rw [List.getElem?_map] at h3
    cases q : fs[i]? with
    | none => rw [q] at h3; cases h3
    | some x =>
      rw [q] at h3
      rw [← Option.some.inj h3]
      exact z2 x (List.mem_of_getElem? q)
  by_cases hf : (fs.toArray[0]?.bind id).isSome = true
  · refine ⟨general', .inl rfl, fun E Q q => ?_⟩
    rw [keyKind'_eq, List.mapM_toArray, map_eq_pure_bind]; skip
    refine wpAny_bind (wpAny_bind (h1 E _ (wpAny_pure ?_)))
    rw [if_neg nall, if_pos hf]
    exact wpAny_pure q
  · refine ⟨oneType', .inr rfl, fun E Q q => ?_⟩
    rw [keyKind'_eq, List.mapM_toArray, map_eq_pure_bind]; skip
    refine wpAny_bind (wpAny_bind (h1 E _ (wpAny_pure ?_)))
    rw [if_neg nall, if_neg hf]
    rw [oneTypeOnly'_eq, List.mapM_toArray, map_eq_pure_bind]; skip
    refine wpAny_bind (wpAny_bind (wpAny_bind (kas_mapM (r := Value.type "tuple") _ (fun v hv Q' hq => ?_) (wpAny_pure ?_))))
    · obtain ⟨d, hd, as, r⟩ := e.left v hv; skip
      obtain ⟨xs, rfl⟩ := ht d hd
      exact (looks_reads (M := M) r).here hq
    · have hne : vs ≠ [] := fun z => by
        subst z
        cases e
        exact hm fun d hd => by cases hd
      obtain ⟨v, vr, rfl⟩ := List.exists_cons_of_ne_nil hne
      have hall : ((List.map (fun _ => Value.type "tuple") (v :: vr)).toArray.all fun x => x == Value.type "tuple") = true := by
        simp only [List.all_toArray, List.all_map, List.all_eq_true]; skip
        intro _ _
        exact beq_self_eq_true _
      have h0 : (List.map (fun _ => Value.type "tuple") (v :: vr)).toArray[0]? = some (.type "tuple") := by simp
      rw [h0]
      simp only [hall, if_true]
      exact wpAny_pure (wpAny_pure q)
theorem sorts_tups {vs : List Value} {ds : List PyData} (e : EachIs (fun v d => ∃ as, Reads s.heap v d as) vs ds) (hal : AllAlike ds) (ht : ∀ d, d ∈ ds → ∃ xs, d = .tuple xs) (hu : ∀ d, d ∈ ds → A.units + d.depth < cLine) : SortsAt prog w A s (dataKind s.heap ds) vs := by
  by_cases hm : ∀ d, d ∈ ds → neT d = true
  · refine SortsAt.data e hal (.inl fun d hd => ?_) hu
    obtain ⟨xs, rfl⟩ := ht d hd
    cases xs with
    | nil => cases hm _ hd
    | cons x r => exact ⟨x, r, rfl⟩
  · obtain ⟨kd, hk, hkk⟩ := kind_of (A := A) (M := model prog w) e ht hm
    refine ⟨fun v hv => ?_, kd, ?_, fun _ E Q q => hkk E Q q⟩
    · obtain ⟨d, hd, as, r⟩ := e.left v hv; skip
      exact ⟨_, dataKind_some hal hd r⟩; skip
    · intro E x y a b Q ha hb hq
      obtain ⟨d, as, hd, ra, rfl⟩ := dataKind_inv ha; skip
      obtain ⟨d', as', hd', rb, rfl⟩ := dataKind_inv hb; skip
      have hroom : A.units + min d.depth d'.depth < cLine := Nat.lt_of_le_of_lt (Nat.add_le_add_left (Nat.min_le_left _ _) _) (hu d hd)
      have hdd := hal d hd d' hd'
      obtain ⟨xs, rfl⟩ := ht d hd
      obtain ⟨ys, rfl⟩ := ht d' hd'
      rcases hk with rfl | rfl
      · exact oneLt_alike (f := false) (fun z => by cases z) ra rb hdd (by simp) hroom hq
      · rw [keyLt'_oneType]
        exact one_tup ra rb (by simpa [alike] using hdd) hroom hq
end
/-! ### tuples of ints -/
def encT (p : AT) : PyData := .tuple (p.2.map .int)
def keyT (p : AT) : PyData := .tuple [.int p.2.length, encT p]
theorem dep_ints : ∀ ns : List Int, PyData.depthAll (ns.map .int) = 0
  | [] => by simp [PyData.depthAll]
  | n :: ns => by simp [PyData.depthAll, PyData.depth, dep_ints ns]
theorem dep_T (p : AT) : (encT p).depth ≤ 1 := by
  unfold encT
  rw [PyData.depth, dep_ints]
  omega
theorem dep_K (p : AT) : (keyT p).depth ≤ 2 := by
  have := dep_T p
  simp only [keyT, PyData.depth, PyData.depthAll]
  omega
theorem alike_T (bs : List AT) : AllAlike (bs.map encT) := AllAlike.of fun a b => by simp [encT, alike, alike_ints]
theorem alike_K (bs : List AT) : AllAlike (bs.map keyT) := AllAlike.of fun a b => by simp [keyT, encT, alike, alikeAll, alike_ints]
section
variable {P : Program} {w : World}
theorem reads_items {h : Heap} : ∀ {k : List Int} {vs : List Value}, ItemsAre (intKind P w) k vs → ReadsAll h vs (k.map .int) []
  | _, _, .nil => .nil
  | _, _, .cons h1 t => by
    obtain ⟨tk, rfl⟩ := Value.isInt_shape h1
    exact .cons (as := []) (bs := []) (.int _ tk) (reads_items t)
theorem reads_T {h : Heap} {k : List Int} {a : Addr} (x : IsT P w h k a) : Reads h (.ref a) (.tuple (k.map .int)) [] := by
  obtain ⟨o, items, n, ho, hc, hd, hi⟩ := x; skip
  exact .tuple ho hc hd (reads_items hi)
end
end Pl

namespace Pl
open PySem PySem.Spec PyProof.Rows L2 PySem.W PySem.SeqAt
theorem each_refs {S : Value → AT → Prop} (h : ∀ p : AT, S (.ref p.1) p) : ∀ L : List AT, EachIs S (L.map fun p => Value.ref p.1) L
  | [] => .nil
  | p :: L => .cons (h p) (each_refs h L)
theorem each_refs' {S : Value → AT → Prop} : ∀ L : List AT, (∀ p ∈ L, S (.ref p.1) p) → EachIs S (L.map fun p => Value.ref p.1) L
  | [], _ => .nil
  | p :: L, h => .cons (h p List.mem_cons_self) (each_refs' L fun q hq => h q (List.mem_cons_of_mem _ hq))
theorem refs_each : ∀ {vs : List Value} {L : List AT}, EachIs (fun v (p : AT) => v = Value.ref p.1) vs L → vs = L.map fun p => Value.ref p.1
  | _, _, .nil => rfl
  | _, _, .cons h t => by rw [h, refs_each t, List.map_cons]
section
variable {prog : Program} {w : World} {s : Shared} {E : Value → Shared → Prop} {A : Around}
/-- sorted(a list of tuples of ints) -/
theorem sorted_list {l : Addr} {L : List AT} {Q : Value → Shared → Prop} (hl : s.heap.IsList l (L.map fun p => Value.ref p.1).toArray) (hk : ∀ p ∈ L, IsT prog w s.heap p.2 p.1) (hL : L.length ≤ sizeLine) (hu : A.units + 4 < cLine)
    (q : ∀ out, out = (L.mergeSort (dataLe false encT)).map (fun p => Value.ref p.1) → Q (.ref (s.heap.objs.size + 1)) { s with heap := sortedAll s.heap (L.map fun p => Value.ref p.1) (List.toArray out) }) : (wpAny (model prog w) A (call (.builtin "sorted") [.ref l]) Q E s) := by
  have er : EachIs (fun v b => ∃ as, Reads (sortingHeap (copyHeap s.heap (L.map fun p => Value.ref p.1)) (s.heap.objs.size + 1) (L.map fun p => Value.ref p.1)) v (encT b) as) (L.map fun p => Value.ref p.1) L :=
    each_refs' L fun p hp => ⟨[], PyProof.Rows.Reads.keeps (fun _ _ => sorting_copy_old) (reads_T (hk p hp))⟩
  have bd : ∀ d, d ∈ L.map encT → A.in1.in1.units + d.depth < cLine := fun d hd => by
    obtain ⟨p, _, rfl⟩ := List.mem_map.mp hd
    have := dep_T p
    show A.units + 2 + _ < cLine
    omega
  refine sorted_vals hl (sorts_tups (s := { s with heap := sortingHeap (copyHeap s.heap (L.map fun p => Value.ref p.1)) (s.heap.objs.size + 1) (L.map fun p => Value.ref p.1) }) (each_map (R := fun v d => ∃ as, Reads (sortingHeap (copyHeap s.heap (L.map fun p => Value.ref p.1)) (s.heap.objs.size + 1) (L.map fun p => Value.ref p.1)) v d as) encT er) (alike_T L) (fun d hd => ?_) bd) (by rw [List.length_map]; exact hL) (q _ (refs_each (sortVals_data false (R := fun v (p : AT) => v = Value.ref p.1) (each_refs (fun _ => rfl) L) er (alike_T L))))
  obtain ⟨p, _, rfl⟩ := List.mem_map.mp hd
  exact ⟨_, rfl⟩
/-- list.sort of such -/
theorem lsort_list {a : Addr} {n : Nat} {L : List AT} {Q : Value → Shared → Prop} (ho : s.heap.get? a = some (seqObj "list" (L.map fun p => Value.ref p.1).toArray n)) (hk : ∀ p ∈ L, p.1 ≠ a ∧ IsT prog w s.heap p.2 p.1) (hL : L.length ≤ sizeLine) (hu : A.units + 4 < cLine)
    (q : ∀ out, out = (L.mergeSort (dataLe false encT)).map (fun p => Value.ref p.1) → Q .none { s with heap := sortedHeap s.heap a (L.map fun p => Value.ref p.1) (List.toArray out) }) : (wpAny (model prog w) A (call (.builtin "list.sort") [.ref a]) Q E s) := by
  have er : EachIs (fun v b => ∃ as, Reads (sortingHeap s.heap a (L.map fun p => Value.ref p.1)) v (encT b) as) (L.map fun p => Value.ref p.1) L :=
    each_refs' L fun p hp => ⟨[], by
      obtain ⟨o, items, k, h1, h2⟩ := (hk p hp).2
      exact reads_T (P := prog) (w := w) ⟨o, items, k, sortingHeap_old (hk p hp).1 h1, h2⟩⟩
  have bd : ∀ d, d ∈ L.map encT → A.in1.units + d.depth < cLine := fun d hd => by
    obtain ⟨p, _, rfl⟩ := List.mem_map.mp hd
    have := dep_T p
    show A.units + 1 + _ < cLine
    omega
  refine wpAny_call_entry slot_list_sort ⟨_, ho, rfl⟩ entry_list_sort (list_sort_vals ho (sorts_tups (s := { s with heap := sortingHeap s.heap a (L.map fun p => Value.ref p.1) }) (each_map (R := fun v d => ∃ as, Reads (sortingHeap s.heap a (L.map fun p => Value.ref p.1)) v d as) encT er) (alike_T L) (fun d hd => ?_) bd) (by rw [List.length_map]; exact hL) ⟨.none, rfl, ?_⟩) (args_list_sort _)
  · obtain ⟨p, _, rfl⟩ := List.mem_map.mp hd
    exact ⟨_, rfl⟩
  · exact q _ (refs_each (sortVals_data false (R := fun v (p : AT) => v = Value.ref p.1) (each_refs (fun _ => rfl) L) er (alike_T L)))
/-- sorted(a set of these) -/
theorem sorted_set {a : Addr} {L : List AT} {es : Array (Int × Value)} {ep : Nat} {t : SetTable} {Q : Value → Shared → Prop} (R : SetTR prog w s.heap a L es ep t) (hh : A.handled = none) (hu : A.units + 5 < cLine)
    (q : ∀ s' p (out : Array Value) (c : Nat) (L' : List AT), (∀ b o, s.heap.get? b = some o → s'.heap.get? b = some o) → s'.gens = s.gens → s'.os = s.os → s.heap.objs.size ≤ p → s'.heap.get? p = some (seqObj "list" out c) → out.toList = L'.map (fun q => Value.ref q.1) → L'.Perm L → Q (.ref p) s') :
    (wpAny (model prog w) A (call (.builtin "sorted") [.ref a]) Q E s) := by
  obtain ⟨o, ho, hex, hd⟩ := R.ob; skip
  have hfew := R.few
  refine Calls.call_function_entry kind_sorted plain_sorted entry_sorted (args_sorted1 _) ?_; skip
  unfold Builtin.«sorted»
  refine wpAny_bind (m := checkCount "sorted" 1 1 _) (wpAny_pure ?_); skip
  refine wpAny_bind (collect_set (A := A.in1) hh ⟨o, ho, hex.1, hd⟩ R.fits (by have := R.size; unfold scanBound; omega) R.tab.ris R.led fun s1 vs k1 hz g1 o1 pm => ?_)
  have hes : es.toList.map (·.2) = L.map fun q => Value.ref q.1 := by
    rw [R.rows]
    unfold L2.rowsOf
    rw [List.map_map]
    rfl
  rw [hes] at pm
  obtain ⟨L1, e1, p1⟩ : ∃ L1 : List AT, vs = L1.map (fun q => Value.ref q.1) ∧ L1.Perm L := by
    have key : ∀ (vs : List Value) (L : List AT), vs.Perm (L.map fun q => Value.ref q.1) → ∃ L1 : List AT, vs = L1.map (fun q => Value.ref q.1) ∧ L1.Perm L := fun vs => by
      induction vs with
      | nil =>
        intro L h
        have z := h.length_eq
        rw [List.length_map, List.length_nil] at z
        obtain rfl := List.eq_nil_of_length_eq_zero z.symm
        exact ⟨[], rfl, .refl _⟩
      | cons v vs ih =>
        intro L h
        obtain ⟨p, hp, rfl⟩ := List.mem_map.mp (h.mem_iff.mp List.mem_cons_self)
        obtain ⟨l1, l2, rfl⟩ := List.append_of_mem hp
        have h2 : ((l1 ++ p :: l2).map fun q : AT => Value.ref q.1).Perm (Value.ref p.1 :: (l1 ++ l2).map fun q => Value.ref q.1) := by
          rw [List.map_append, List.map_cons, List.map_append]
          exact List.perm_middle
        obtain ⟨L1, e, pm⟩ := ih (l1 ++ l2) ((h.trans h2).cons_inv)
        exact ⟨p :: L1, by rw [List.map_cons, e], (pm.cons p).trans List.perm_middle.symm⟩
    exact key vs L pm
  subst e1
  have hL1 : L1.length < 64 := by rw [p1.length_eq]; exact hfew
  refine wpAny_bind (wpAny_newList ?_ (by rw [sizeLine_eq, List.length_map]; omega))
  have hoL : (s1.heap.push (seqObj "list" (L1.map fun q => Value.ref q.1).toArray 0)).get? s1.heap.objs.size = some (seqObj "list" (L1.map fun q => Value.ref q.1).toArray 0) := Heap.get?_push_size _ rfl
  refine wpAny_bind (wpAny_holding (lsort_list (s := { s1 with heap := s1.heap.push (seqObj "list" (L1.map fun q => Value.ref q.1).toArray 0) }) hoL (fun p hp => ?_) (by rw [sizeLine_eq]; omega) (by show A.units + 1 + 4 < cLine; omega) fun out eo => ?_))
  · have ht := isT_keep (R.tup p (p1.mem_iff.mp hp)) k1
    have hlt : p.1 < s1.heap.objs.size := by
      obtain ⟨o, _, _, h, _⟩ := ht
      exact Heap.lt_size h
    exact ⟨Nat.ne_of_lt hlt, isT_keep ht fun b u e => Heap.get?_push_of_some _ e⟩
  · obtain ⟨c, hc⟩ := sortedHeap_at (vs := L1.map fun q => Value.ref q.1) (out := out.toArray) hoL
    refine wpAny_pure ⟨_, rfl, q _ s1.heap.objs.size out.toArray c (L1.mergeSort (dataLe false encT)) (fun b u e => ?_) g1 o1 hz hc (by simpa using eo) ((List.mergeSort_perm _ _).trans p1)⟩
    have z := k1 b u e
    have hlt := Heap.lt_size z
    show (sortedHeap (s1.heap.push (seqObj "list" (L1.map fun q => Value.ref q.1).toArray 0)) s1.heap.objs.size (L1.map fun q => Value.ref q.1) out.toArray).get? b = some u
    rw [sortedHeap_old (Nat.ne_of_lt hlt) (by rw [size_push']; exact Nat.lt_succ_of_lt hlt)]; skip
    exact Heap.get?_push_of_some _ z
end
section
variable {X : Cx}
def refs (L : List AT) : List V := L.map fun p => V.ref p.1
/-- set(a list of tuples), of few unlike ones -/
def rSetM (K : PySem.W.Frag) (P : Program) (w : World) : List V → Hp → VK → Prop := fun xs H Q => ∃ (l : Addr) (ks : List AT) (D : List (List Int)), xs = [V.ref l] ∧ SqL K H l (refs ks) ∧ (∀ p ∈ ks, SqT K H p.1 (p.2.map V.int)) ∧ (∀ p ∈ ks, p.2 ∈ D) ∧ D.length < 63 ∧
  ∀ a L, H a = none → (∀ p ∈ L, p ∈ ks) → (∀ p ∈ ks, p.2 ∈ L.map (·.2)) → L.length < 64 → Q (.ref a) (upd H a (SetTO P w a L))
theorem cr_setM (hc : X.calm = true) (hu : X.A.units + 64 < cLine) : CallR X (.type "set") (rSetM X.K X.prog X.w) := by
  intro pins s σ H xs us Q I r h; skip
  obtain ⟨l, ks, D, rfl, hl, hk, hD, h63, q⟩ := h
  rw [Vals.ref1 r]
  obtain ⟨its, rv, pl, hz⟩ := I.list hl; skip
  refine set_many (P := X.prog) (w := X.w) (ks := ks) D hD h63 (I.ok.hd hc) pl.isList (by simpa using refs_of_vals rv) (fun p hp => I.isT (hk p hp)) (by omega) fun g tk so kp => ?_
  obtain ⟨L, es, ep, t, R, gt⟩ := so
  exact ⟨.ref s.heap.objs.size, upd H s.heap.objs.size (SetTO X.prog X.w s.heap.objs.size L), I.laid (t' := tk) kp (Nat.le_refl _) (setTO_new R.t0), rfl, q _ L (I.hok.fresh (Nat.le_refl _)) (fun p hp => List.mem_of_mem_take (gt.sub p hp)) (fun p hp => gt.all p (by rw [List.take_length]; exact hp)) R.few⟩
def rSortM (K : PySem.W.Frag) (P : Program) (w : World) : List V → Hp → VK → Prop := fun vs H Q => ∃ (a : Addr) (L : List AT), vs = [V.ref a] ∧ H a = some (SetTO P w a L) ∧ (∀ p ∈ L, SqT K H p.1 (p.2.map V.int)) ∧ ∀ (L' : List AT) (p : Addr), L'.Perm L → H p = none → Q (.ref p) (upd H p (.lst (refs L')))
theorem cr_sortM (hc : X.calm = true) (hu : X.A.units + 64 < cLine) : CallR X (.builtin "sorted") (rSortM X.K X.prog X.w) := by
  intro pins s σ H vs us Q I r h; skip
  obtain ⟨a, L, rfl, ha, hk, q⟩ := h
  have R0 : SetT0 X.prog X.w s.heap a L := (I.hok a _ ha).1; skip
  obtain ⟨es, ep, t, R⟩ := R0.full fun p hp => I.isT (hk p hp); skip
  rw [Vals.ref1 r]
  refine sorted_set R (I.ok.hd hc) (by omega) fun s' p out c L' k g o hp hg hout pm => ?_
  have hlen : (refs L').length ≤ sizeLine := by
    have := R.few
    rw [← pm.length_eq] at this
    unfold refs
    rw [List.length_map, sizeLine_eq]; skip
    omega
  have hn : H p = none := I.hok.fresh hp; skip
  have hv : Vals (refs L') out.toList := by
    rw [hout]
    exact vals_of_refs L'
  obtain ⟨h2, g2, d2, t2, o2⟩ := s'
  obtain rfl : g2 = s.gens := g
  obtain rfl : o2 = s.os := o
  have J : Inv X pins σ (upd H p (.lst (refs L'))) { s with heap := h2, drawn := d2, toks := t2 } := I.call (ch := []) (Un.laid k hp hn) (I.hok.laid k hp ⟨hlen, out.toList, c, hv, hg⟩) I.bare fun _ z => nomatch z
  exact ⟨.ref p, _, J, rfl, q L' p pm hn⟩
/-- sorted(a list of tuples) -/
def rSortL (K : PySem.W.Frag) : List V → Hp → VK → Prop := fun vs H Q => ∃ (a : Addr) (L : List AT), vs = [V.ref a] ∧ SqL K H a (refs L) ∧ (∀ p ∈ L, SqT K H p.1 (p.2.map V.int)) ∧ ∀ (L' : List AT) (p : Addr), L'.Perm L → H p = none → Q (.ref p) (upd H p (.lst (refs L')))
theorem cr_sortL (hu : X.A.units + 64 < cLine) : CallR X (.builtin "sorted") (rSortL X.K) := by
  intro pins s σ H vs us Q I r h; skip
  obtain ⟨a, L, rfl, ha, hk, q⟩ := h
  rw [Vals.ref1 r]
  obtain ⟨its, rv, pl, hz⟩ := I.list ha
  have e := refs_of_vals rv
  subst e
  have hz' : L.length ≤ sizeLine := by
    have z := hz
    unfold refs at z
    rw [List.length_map] at z
    exact z
  refine sorted_list (prog := X.prog) (w := X.w) (L := L) pl.isList (fun p hp => I.isT (hk p hp)) hz' (by omega) fun out eo => ?_
  obtain ⟨ep, he⟩ := PyProof.Rows.sortedAll_at s.heap (L.map fun p => Value.ref p.1) (List.toArray out)
  have pm := List.mergeSort_perm L (dataLe false encT)
  have hlen : (refs (L.mergeSort (dataLe false encT))).length ≤ sizeLine := by
    unfold refs
    rw [List.length_map, pm.length_eq]
    exact hz'
  exact ⟨.ref _, upd H (s.heap.objs.size + 1) (.lst (refs (L.mergeSort (dataLe false encT)))), I.laid (t' := s.toks) (fun _ _ => PyProof.Rows.sortedAll_old) (Nat.le_succ _) ⟨hlen, out, ep, by rw [eo]; exact vals_of_refs _, he⟩, rfl, q _ _ pm (I.hok.fresh (Nat.le_succ _))⟩
end
end Pl

namespace Pl
open PySem PySem.Spec PyProof.Rows L2 PySem.W PySem.SeqAt
/-- the lambda's text: x: (len(x), x) -/
structure LamK (x : Str) (params : Arguments) (body : Expr) (scope : Scope) : Prop where
  co : (scope.isCoroutine = false)
  gen : (scope.isGenerator = false)
  kind : scope.kind = .function
  names : scope.names = [(x, .local), ("len", .globalImplicit)]
  bind : ∀ (q : Str) (cl : List (Str × Addr)) (pm cv ctv v : Value), bindArgs (kla_fn "<lambda>" q params body scope cl pm cv ctv) ⟨[v], []⟩ = pure [(x, v)]
  body : ∃ p1 p2 p3 p4 p5 k, body = .Tuple [.Call (.Name "len" p1) [.Name x p2] [] p3, .Name x p4] k p5
  db : (x == ("__debug__" : Str)) = false
  ne : ((("len" : Str)) == x) = false
theorem lamK_turn {prog : Program} {w : World} {A : Around} {x q : Str} {params : Arguments} {body : Expr} {scope : Scope} (L : LamK x params body scope) (hd : A.depth < recursionLimit) {s : Shared} {f c' : Addr} {cl : List (Str × Addr)} {pm ctv : Value} {mg mb : Str → Option Value} {p : AT}
    (hlim : s.heap.NoLimit) (hg : s.heap.Ns mainGlobals mg) (hm : mg "len" = none) (hb : s.heap.Ns builtinsNs mb) (hv : mb "len" = some (.builtin "len")) (hf : s.heap.get? f = some (kla_obj "<lambda>" q params body scope cl pm c' ctv)) (hc : ∃ (oc : Obj) (vs : Array Value) (t : Tok), s.heap.get? c' = some oc ∧ oc.data = .fields vs ∧ vs[1]? = some (.str q t))
    (hr : IsT prog w s.heap p.2 p.1) (hz : p.2.length ≤ sizeLine) : wpAny (model prog w) A (call (.ref f) [.ref p.1]) (KeyPure (keyT p) s) (fun _ _ => False) s := by
  obtain ⟨oc, vs, tk, hoc, hdc, hvc⟩ := hc
  refine wpAny_call (kla_callFunE hd hf rfl L.co L.gen rfl ⟨c', oc, vs, tk, rfl, hoc, hdc, hvc⟩ ?_)
  rw [L.bind]
  refine wpAny_pure (wpAny_newFunctionEnv (fun y hy => ?_) (fun y hy => ?_) (fun h1 hns hsb => ?_) L.kind)
  · rw [L.names, List.mem_cons, List.mem_singleton] at hy
    rcases hy with rfl | rfl
    · exact fun z => by cases z
    · exact fun z => by cases z
  · rw [List.mem_singleton] at hy
    rw [hy]
    show scope.names.lookup x = some .local
    rw [L.names]
    simp [List.lookup]
  · have kp : ∀ b o, s.heap.get? b = some o → h1.get? b = some o := fun b o e => hsb.extBut b o (Nat.ne_of_lt (Heap.lt_size e)) (Heap.get?_push_of_some _ e)
    refine ⟨hlim.keeps kp, kla_codeExpr ?_⟩
    obtain ⟨p1, p2, p3, p4, p5, k, rfl⟩ := L.body
    have hx : scope.names.lookup x = some .local := by rw [L.names]; simp [List.lookup]
    have hlen : scope.names.lookup (("len" : Str)) = some .globalImplicit := by
      rw [L.names, List.lookup_cons, L.ne]
      simp [List.lookup]
    refine wpAny_Tuple_spliced ?_
    show wpAny _ _ (spliced [(false, eval (.Call (.Name "len" p1) [.Name x p2] [] p3) (newEnv scope s.heap.objs.size mainGlobals cl (q ++ ".<locals>.") (some f) (.ref c') none builtinsNs)), (false, eval (.Name x p4) (newEnv scope s.heap.objs.size mainGlobals cl (q ++ ".<locals>.") (some f) (.ref c') none builtinsNs))]) _ _ _
    have nm : ∀ (h : Heap) (tk : Nat) (pp : Pos) {M : Model} {A' : Around} {Q : Value → Shared → Prop} {E : Value → Shared → Prop}, (∀ b o, h1.get? b = some o → h.get? b = some o) → Q (.ref p.1) { s with heap := h, toks := tk } →
        wpAny M A' (eval (.Name x pp) (newEnv scope s.heap.objs.size mainGlobals cl (q ++ ".<locals>.") (some f) (.ref c') none builtinsNs)) Q E { s with heap := h, toks := tk } := fun h tk pp M A' Q E kk qq =>
      wpAny_Name (wpAny_loadName_local L.kind (by exact hx) (hns.keeps kk) (v := .ref p.1) (by simp [List.lookup]) qq) L.db
    refine Calls.spliced_cons (wpAny_Call_Name_kw (Calls.Name_function_global L.kind (by exact hlen) (Calls.loadGlobal_builtin (mg := mg) (mb := mb) (hg.keeps kp) hm (hb.keeps kp) hv ?_) (by decide)))
    refine PyProof.Rows.callWith_builtin1 ?_ (by rfl) (by rfl)
    refine Calls.spliced_cons (nm _ _ _ (fun _ _ e => e) (Calls.spliced_nil ?_))
    obtain ⟨o, items, n, ho, hcl, hda, hi⟩ := isT_keep hr kp
    have hil : items.size = p.2.length := by
      have e := SeqAt.ReadsAll.length _ _ _ (reads_items (h := h1) hi)
      simpa using e
    have hz2 := sizeLine_eq
    refine len_tuple (items := items) ⟨o, ho, hcl, n, hda⟩ (by rw [hil]; omega) ?_
    refine Calls.spliced_cons (nm _ _ _ (fun _ _ e => e) (Calls.spliced_nil ?_))
    refine ⟨by rw [sizeLine_eq]; simp, ?_⟩
    refine ⟨_, _, rfl, fun b o e => Heap.get?_push_of_some _ (kp b o e), ?_⟩
    refine .tuple (Heap.get?_push_size _ rfl) rfl rfl ?_
    refine .cons (as := []) (bs := []) ?_ (.cons (as := []) (bs := []) ?_ .nil)
    · rw [hil]
      exact .int _ _
    · exact PyProof.Rows.Reads.keeps (fun b o e => Heap.get?_push_of_some _ (kp b o e)) (reads_T hr)
/-- sorted(e, key=lambda x: (len(x), x)) -/
def leK : AT → AT → Bool := dataLe false keyT
def tSortLot (T : List (Addr × Str)) (te : TE) : TE := fun σ H Q => te σ H fun v H1 => LamX.Tabs T H1 ∧ ∃ (a : Addr) (L : List AT), v = .ref a ∧ H1 a = some (.lst (refs L)) ∧ (∀ p ∈ L, H1 p.1 = some (.tup (p.2.map V.int))) ∧ L.length ≤ 64 ∧ (∀ p ∈ L, p.2.length ≤ 64) ∧
  ∀ H2 p, LamX.ExtN H1 H2 → LamX.Tabs T H2 → H2 p = none → Q (.ref p) (upd H2 p (.lst (refs (L.mergeSort leK))))
section
variable {X : Cx} {s : Shared} {pins : List (Addr × Obj)} {H : Hp} {σ : L2.St}
theorem pe_sortLot {e : Expr} {te : TE} {x : Str} {params : Arguments} {body : Expr} {scope : Scope} {T : List (Addr × Str)} {c P : Addr} {p lpos kpos pos : Pos} (L : LamK x params body scope) (hg : Gl X "sorted") (hm : X.mg "sorted" = none) (hml : X.mg "len" = none) (he : PE X e te) (TB : LamX.TabB X.base X.mg c P)
    (hT : (P, X.env.qual ++ "<lambda>") ∈ T) (hT1 : ∀ p ∈ T, p.1 = P → p.2 = X.env.qual ++ "<lambda>") (hcode : X.env.code = .ref c) (hr : Room 2 X.A) (hdef : defaultsOf params X.env = ([], []) := by rfl)
    (hst : backTo pos (starEach [e] X.env) = (false, eval e X.env) :: backTo pos (starEach [] X.env) := by rfl) (hpl : (backTo pos (starEach [e] X.env)).any (·.1) = false := by rfl) :
    PE X (.Call (.Name "sorted" p) [e] [⟨some "key", .Lambda params body scope lpos, kpos⟩] pos) (tSortLot T te) := by
  refine ⟨fun pins s σ H Q I h => ?_⟩; skip
  refine wpAny_Call_Name_kw (ld_blt I hg hm boot_sorted ?_)
  refine PyProof.Rows.callWith_kw ?_ hst hpl (by rfl) (by rfl)
  rw [hst]
  refine Calls.spliced_cons (thn (he.run pins s σ H _ I h) fun v s1 ⟨w, H1, I1, r1, hTt, a, ks, e1, ha, hk, hl, h64, q⟩ => Calls.spliced_nil ?_)
  subst e1
  obtain rfl : v = Value.ref a := r1; skip
  show wpAny _ _ (evalAll [do let v ← eval (.Lambda params body scope lpos) X.env; standAt pos; pure v]) _ _ s1
  refine wpAny_evalAll_cons (wpAny_bind (LamX.lam_make2 (T := T) (c := c) (P := P) I1 TB hcode hT hT1 hTt hdef (fun y hy hfr => ?_) fun f c' pm ctv H2 s2 I2 eN T2 hf hfn _ hco => ?_))
  · rw [L.names, List.mem_cons, List.mem_singleton] at hy
    rcases hy with rfl | rfl
    · cases hfr
    · cases hfr
  refine wpAny_bind (wpAny_standAt (wpAny_pure (wpAny_evalAll_nil ?_)))
  show wpAny _ _ (call (.builtin "sorted") [.ref a] [(Str.ofString "key", .ref f)]) _ _ s2
  obtain ⟨⟨oc, vs, t, hoc, hdc, hvc⟩, _, _⟩ := I2.hok c' _ hco
  have ha2 : H2 a = some (.lst (refs ks)) := eN _ _ ha fun _ z => by cases z
  have hk2 : ∀ p ∈ ks, IsT X.prog X.w s2.heap p.2 p.1 := fun p hp => I2.isT (SqT.of (eN _ _ (hk p hp) fun _ z => by cases z))
  obtain ⟨its, rv, pl, hz⟩ := I2.list (SqL.of ha2 : SqL X.K H2 a (refs ks))
  have e2 := refs_of_vals rv
  subst e2
  have lim2 := I2.nolimit
  obtain ⟨mb, b1, b2⟩ := I2.mod.blt
  have hdp := hr.dp
  have hun := hr.un
  have hzz := sizeLine_eq
  refine sorted_key_data (b := false) (R := fun v (p : AT) => v = Value.ref p.1) keyT pl.isList (each_refs (fun _ => rfl) ks) (alike_K ks) (Sortable.tuples fun _ => ⟨_, _, rfl⟩) (by omega) (fun p _ => ?_) (ksk_s1 _ _) (fun _ => ksk_l1 _ _) (fun _ => ksk_t1 _ _) (fun v p ev hp h tk kp => ?_) fun out k h' tk kp _ hl' lo eo => ?_
  · have := dep_K p
    omega
  · subst ev
    exact lamK_turn (s := { s2 with heap := h, toks := tk }) (A := X.A.in1.in1) L (by show X.A.depth < recursionLimit; omega) (lim2.keeps kp) ((I2.mod.glob.keeps I2.bk).keeps kp) hml ((b1.keeps I2.bk).keeps kp) ((b2 _ (by decide)).trans (by rfl)) (kp _ _ hf) ⟨oc, vs, t, kp _ _ hoc, hdc, hvc⟩ (isT_keep (hk2 p hp) kp) (by have := h64 p hp; omega)
  · have rv2 := refs_each eo
    have pm := List.mergeSort_perm ks leK
    have hlen : (refs (ks.mergeSort leK)).length ≤ sizeLine := by
      unfold refs
      rw [List.length_map, pm.length_eq]
      omega
    have new : H2 (s2.heap.objs.size + 1) = none := I2.hok.fresh (Nat.le_succ _)
    exact ⟨.ref _, upd H2 (s2.heap.objs.size + 1) (.lst (refs (ks.mergeSort leK))), I2.laid (t' := tk) kp (Nat.le_succ _) ⟨hlen, out, k, by rw [rv2]; exact vals_of_refs _, hl'⟩, rfl, q H2 _ eN T2 new⟩
end
end Pl

namespace Pl
open PySem PySem.W
/-! ### lots, reckoned -/
abbrev Z := List Int
def has (l : Z) (x : Int) : Bool := decide (x ∈ l)
/-- what two have in common -/
def cap (a b : Z) : Z := a.filter (has b)
/-- without these -/
def wo (a b : Z) : Z := a.filter fun x => !has b x
def stepS (ls : List Z) (c : Int) : List Z := ls ++ ls.map (· ++ [c])
/-- all lots within one, as they are grown -/
def subs (u : Z) : List Z := u.foldl stepS [[]]
def keyZ (l : Z) : PyData := .tuple [.int l.length, .tuple (l.map .int)]
def leZ : Z → Z → Bool := dataLe false keyZ
/-- by size, then ascending -/
def parts (u : Z) : List Z := (subs u).mergeSort leZ
/-- no pair has only bad ones in common -/
def safe (W R : List Z) (bad : Z) : Bool := W.all fun w => R.all fun r => w.any fun c => has r c && !has bad c
/-- the lots sh that write and read have in common each have a good one -/
def had (sh : List Z) (bad : Z) : Bool := sh.all fun l => decide ((cap l bad).length < l.length)
def within_ (l b : Z) : Bool := l.all (has b)
def cnd (S : Z → Bool) (u : Z) (acc : List Z) (b : Z) : Bool := S (wo u b) && !acc.any (fun l => within_ l b)
def stepB (S : Z → Bool) (u : Z) (acc : List Z) (b : Z) : List Z := if cnd S u acc b = true then acc ++ [b] else acc
def leastS (S : Z → Bool) (u : Z) : List Z := (parts u).foldl (stepB S u) []
theorem has_iff {l : Z} {x : Int} : has l x = true ↔ x ∈ l := decide_eq_true_iff
theorem leZ_total : ∀ a b : Z, (leZ a b || leZ b a) = true := fun a b => by
  rw [Bool.or_eq_true]
  exact (sortLe_total (PyProof.Rows.listOrd PyProof.Rows.itemOrd) false fun b : Z => keyToks (keyZ b)).total a b
theorem leZ_trans : ∀ a b c : Z, leZ a b = true → leZ b c = true → leZ a c = true := (sortLe_total (PyProof.Rows.listOrd PyProof.Rows.itemOrd) false fun b : Z => keyToks (keyZ b)).trans
theorem leZ_len {a b : Z} (h : leZ a b = true) : a.length ≤ b.length := by
  have h' : (!dataLt (keyZ b) (keyZ a)) = true := h
  unfold keyZ at h'
  rw [dataLt_pair (by simp [alike]) (by simp [alike, alike_ints])] at h'
  simp only [PyData.eqv, beq_iff_eq, dataLt_int] at h'
  by_cases e : (b.length : Int) = a.length
  · omega
  · rw [if_neg e] at h'
    have : ¬ (b.length : Int) < a.length := by simpa using h'
    omega
theorem parts_sorted (u : Z) : (parts u).Pairwise fun a b => a.length ≤ b.length := (List.pairwise_mergeSort leZ_trans leZ_total (subs u)).imp leZ_len
theorem parts_perm (u : Z) : (parts u).Perm (subs u) := List.mergeSort_perm _ _
theorem subs_snoc (u : Z) (c : Int) : subs (u ++ [c]) = stepS (subs u) c := by
  unfold subs
  rw [List.foldl_append]
  rfl
theorem mem_subs {l : Z} : ∀ {u : Z}, l ∈ subs u ↔ l.Sublist u := fun {u} => by
  have key : ∀ (r l : Z), l ∈ subs r.reverse ↔ l.Sublist r.reverse := fun r => by
    induction r with
    | nil =>
      intro l
      simp [subs]
    | cons c r ih =>
      intro l
      rw [List.reverse_cons, subs_snoc]
      unfold stepS
      rw [List.mem_append, List.mem_map, List.sublist_append_iff]
      constructor
      · rintro (h | ⟨t, ht, rfl⟩)
        · exact ⟨l, [], by simp, (ih l).mp h, by simp⟩
        · exact ⟨t, [c], rfl, (ih t).mp ht, List.Sublist.refl _⟩
      · rintro ⟨l1, l2, rfl, h1, h2⟩
        cases h2 with
        | cons _ h =>
          cases h
          left
          rw [List.append_nil]
          exact (ih l1).mpr h1
        | cons_cons _ h =>
          cases h
          right
          exact ⟨l1, (ih l1).mpr h1, rfl⟩
  have := key u.reverse l
  rwa [List.reverse_reverse] at this
theorem mem_parts {l u : Z} : l ∈ parts u ↔ l.Sublist u := (parts_perm u).mem_iff.trans mem_subs
/-- a strictly ascending list whose members stand in another one is a part of it -/
theorem asc_sub : ∀ {a b : Z}, a.Pairwise (· < ·) → b.Pairwise (· < ·) → (∀ x ∈ a, x ∈ b) → a.Sublist b
  | [], b, _, _, _ => List.nil_sublist b
  | x :: a, [], _, _, h => absurd (h x List.mem_cons_self) List.not_mem_nil
  | x :: a, y :: b, ha, hb, h => by
    obtain ⟨a1, a2⟩ := List.pairwise_cons.mp ha
    obtain ⟨b1, b2⟩ := List.pairwise_cons.mp hb
    by_cases e : x = y
    · subst e
      refine List.Sublist.cons_cons _ (asc_sub a2 b2 fun z hz => ?_)
      rcases List.mem_cons.mp (h z (List.mem_cons_of_mem _ hz)) with r | r
      · have := a1 z hz
        omega
      · exact r
    · refine List.Sublist.cons _ (asc_sub ha b2 fun z hz => ?_)
      have hx : x ∈ b := by
        rcases List.mem_cons.mp (h x List.mem_cons_self) with r | r
        · exact absurd r e
        · exact r
      have yx := b1 x hx
      rcases List.mem_cons.mp (h z hz) with r | r
      · subst r
        rcases List.mem_cons.mp hz with q | q
        · omega
        · have := a1 z q
          omega
      · exact r
/-- a lot of so many copies -/
def Lot (n : Int) (l : Z) : Prop := l.Pairwise (· < ·) ∧ ∀ x ∈ l, 0 ≤ x ∧ x < n
theorem Lot.sub {n : Int} {a b : Z} (h : Lot n b) (s : a.Sublist b) : Lot n a := ⟨h.1.sublist s, fun x hx => h.2 x (s.subset hx)⟩
theorem Lot.mono {n m : Int} {a : Z} (h : Lot n a) (l : n ≤ m) : Lot m a := ⟨h.1, fun x hx => ⟨(h.2 x hx).1, Int.lt_of_lt_of_le (h.2 x hx).2 l⟩⟩
def five : Z := [0, 1, 2, 3, 4]
theorem Lot.five {l : Z} (h : Lot 5 l) : l.Sublist five := asc_sub h.1 (by decide) fun x hx => by
  obtain ⟨a, b⟩ := h.2 x hx
  have : x = 0 ∨ x = 1 ∨ x = 2 ∨ x = 3 ∨ x = 4 := by omega
  rcases this with rfl | rfl | rfl | rfl | rfl <;> simp [Pl.five]
theorem Lot.len {l : Z} (h : Lot 5 l) : l.length ≤ 5 := h.five.length_le
theorem cap_sub (a b : Z) : (cap a b).Sublist a := List.filter_sublist
theorem wo_sub (a b : Z) : (wo a b).Sublist a := List.filter_sublist
theorem subs_len : ∀ u : Z, (subs u).length = 2 ^ u.length := fun u => by
  have key : ∀ r : Z, (subs r.reverse).length = 2 ^ r.length := fun r => by
    induction r with
    | nil => rfl
    | cons c r ih =>
      rw [List.reverse_cons, subs_snoc]
      unfold stepS
      rw [List.length_append, List.length_map, ih, List.length_cons, Nat.pow_succ]
      omega
  have := key u.reverse
  rwa [List.reverse_reverse, List.length_reverse] at this
/-- had, of any list with just the common lots -/
theorem had_safe {sh W R : List Z} {bad : Z} (h : ∀ l, l ∈ sh ↔ ∃ w ∈ W, ∃ r ∈ R, l = cap w r) : had sh bad = safe W R bad := by
  rw [Bool.eq_iff_iff]
  unfold had safe
  rw [List.all_eq_true, List.all_eq_true]
  have one : ∀ l : Z, ((cap l bad).length < l.length) ↔ ∃ c ∈ l, c ∉ bad := fun l => by
    unfold cap
    rw [List.length_filter_lt_length_iff_exists]
    simp [has]
  constructor
  · intro g w hw
    rw [List.all_eq_true]
    intro r hr
    obtain ⟨c, hc, nb⟩ := (one _).mp (of_decide_eq_true (g (cap w r) ((h _).mpr ⟨w, hw, r, hr, rfl⟩)))
    obtain ⟨h1, h2⟩ := List.mem_filter.mp hc
    rw [List.any_eq_true]
    exact ⟨c, h1, by simp [has, has_iff.mp h2, nb]⟩
  · intro g l hl
    obtain ⟨w, hw, r, hr, rfl⟩ := (h l).mp hl
    have := List.all_eq_true.mp (g w hw) r hr
    obtain ⟨c, hc, hh⟩ := List.any_eq_true.mp this
    rw [Bool.and_eq_true] at hh
    refine decide_eq_true ((one _).mpr ⟨c, List.mem_filter.mpr ⟨hc, hh.1⟩, fun z => ?_⟩)
    have := hh.2
    simp [has, z] at this
theorem safe_mem {W R W' R' : List Z} {b b' : Z} (hW : ∀ l, l ∈ W ↔ l ∈ W') (hR : ∀ l, l ∈ R ↔ l ∈ R') (hb : ∀ x, x ∈ b ↔ x ∈ b') : safe W R b = safe W' R' b' := by
  rw [Bool.eq_iff_iff]
  unfold safe
  simp only [List.all_eq_true, List.any_eq_true, Bool.and_eq_true, Bool.not_eq_true', has, decide_eq_true_eq, decide_eq_false_iff_not]
  constructor
  · intro g w hw r hr
    obtain ⟨c, h1, h2, h3⟩ := g w ((hW w).mpr hw) r ((hR r).mpr hr)
    exact ⟨c, h1, h2, fun z => h3 ((hb c).mpr z)⟩
  · intro g w hw r hr
    obtain ⟨c, h1, h2, h3⟩ := g w ((hW w).mp hw) r ((hR r).mp hr)
    exact ⟨c, h1, h2, fun z => h3 ((hb c).mp z)⟩
theorem leastS_congr {S S' : Z → Bool} (h : ∀ b, S b = S' b) (u : Z) : leastS S u = leastS S' u := by
  have : S = S' := funext h
  rw [this]
/-- what the run told it told behind some first ones -/
theorem run_mem {S : Z → Bool} {u b : Z} : ∀ (ps acc : List Z), b ∈ ps.foldl (stepB S u) acc → b ∈ acc ∨ ∃ p1 p2, ps = p1 ++ b :: p2 ∧ cnd S u (p1.foldl (stepB S u) acc) b = true
  | [], acc, h => .inl h
  | p :: ps, acc, h => by
    rcases run_mem ps _ h with g | ⟨p1, p2, rfl, g⟩
    · unfold stepB at g
      split at g
      · rename_i c
        rcases List.mem_append.mp g with g | g
        · exact .inl g
        · rw [List.mem_singleton] at g
          subst g
          exact .inr ⟨[], ps, rfl, c⟩
      · exact .inl g
    · exact .inr ⟨p :: p1, p2, rfl, g⟩
theorem run_keeps {S : Z → Bool} {u l : Z} : ∀ (ps acc : List Z), l ∈ acc → l ∈ ps.foldl (stepB S u) acc
  | [], _, h => h
  | p :: ps, acc, h => run_keeps ps _ (by
    unfold stepB
    split
    · exact List.mem_append_left _ h
    · exact h)
theorem run_has {S : Z → Bool} {u b : Z} (hS : S (wo u b) = true) : ∀ (ps acc : List Z), b ∈ ps → ∃ l ∈ ps.foldl (stepB S u) acc, within_ l b = true
  | [], _, h => by cases h
  | p :: ps, acc, h => by
    rcases List.mem_cons.mp h with e | e; skip
    · subst e
      by_cases c : cnd S u acc b = true
      · refine ⟨b, run_keeps ps _ ?_, List.all_eq_true.mpr fun x hx => has_iff.mpr hx⟩
        unfold stepB
        rw [if_pos c]
        exact List.mem_append_right _ (List.mem_singleton.mpr rfl)
      · unfold cnd at c
        rw [hS, Bool.true_and] at c
        have c' : acc.any (fun l => within_ l b) = true := by simpa using c
        obtain ⟨l, hl, hw⟩ := List.any_eq_true.mp c'
        exact ⟨l, run_keeps ps _ (by
          unfold stepB
          split
          · exact List.mem_append_left _ hl
          · exact hl), hw⟩
    · exact run_has hS ps _ e
/-- made ruly they are safe -/
theorem least_safe {S : Z → Bool} {u b : Z} (h : b ∈ leastS S u) : b.Sublist u ∧ S (wo u b) = true := by
  rcases run_mem _ _ h with g | ⟨p1, p2, e, g⟩
  · cases g
  · refine ⟨mem_parts.mp (e ▸ List.mem_append_right _ List.mem_cons_self), ?_⟩
    unfold cnd at g
    exact (Bool.and_eq_true _ _ ▸ g).1
/-- and with one of them unruly again not -/
theorem least_not {S : Z → Bool} {u b : Z} {c : Int} (h : b ∈ leastS S u) (hc : c ∈ b) : S (wo u (b.filter fun x => decide (x ≠ c))) = false := by
  rcases run_mem _ _ h with g | ⟨p1, p2, e, g⟩
  · cases g
  · by_cases hS : S (wo u (b.filter fun x => decide (x ≠ c))) = true
    · exfalso
      have sb : b.Sublist u := mem_parts.mp (e ▸ List.mem_append_right _ List.mem_cons_self)
      have hm : (b.filter fun x => decide (x ≠ c)) ∈ parts u := mem_parts.mpr (List.filter_sublist.trans sb)
      have lt : (b.filter fun x => decide (x ≠ c)).length < b.length := List.length_filter_lt_length_iff_exists.mpr ⟨c, hc, by simp⟩
      have so := parts_sorted u
      rw [e] at hm so
      have in1 : (b.filter fun x => decide (x ≠ c)) ∈ p1 := by
        rcases List.mem_append.mp hm with q | q; skip
        · exact q
        · rcases List.mem_cons.mp q with q | q; skip
          · have := congrArg List.length q
            omega
          · have := (List.pairwise_cons.mp (List.pairwise_append.mp so).2.1).1 _ q
            omega
      obtain ⟨l, hl, hw⟩ := run_has hS p1 [] in1
      unfold cnd at g
      rw [Bool.and_eq_true] at g
      have g2 : (p1.foldl (stepB S u) []).any (fun l => within_ l b) = false := by simpa using g.2
      have : (p1.foldl (stepB S u) []).any (fun l => within_ l b) = true := List.any_eq_true.mpr ⟨l, hl, List.all_eq_true.mpr fun x hx => by
        have q := has_iff.mp (List.all_eq_true.mp hw x hx)
        exact has_iff.mpr (List.mem_filter.mp q).1⟩
      rw [g2] at this
      cases this
    · exact Bool.eq_false_iff.mpr hS
theorem within_cap {l b : Z} : (cap l b = l) ↔ within_ l b = true := by
  unfold cap within_
  rw [List.filter_eq_self, List.all_eq_true]
theorem within_wo {l b : Z} : (wo l b = []) ↔ within_ l b = true := by
  unfold wo within_
  rw [List.filter_eq_nil_iff, List.all_eq_true]
  simp
end Pl

namespace Pl
open L2 PySem PySem.Spec PyProof.Rows
/-! ### the text by places -/
def top (i : Nat) : Stmt := PySem.Challenge.pw_plainstore_k26_whole_told_lots_and_bars.main.body.getD i (.Pass ⟨0, 0, 0, 0⟩)
abbrev sIsNumber : Stmt := top 5
abbrev sIsWithin : Stmt := top 6
abbrev sIsLot : Stmt := top 9
abbrev sCkLot : Stmt := top 10
abbrev sAllLots : Stmt := top 11
abbrev sCommon : Stmt := top 12
abbrev sAreSafe : Stmt := top 15
abbrev sLeastB : Stmt := top 16
abbrev sByCount : Stmt := top 17
abbrev sCounts : Stmt := top 18
abbrev sCheck : Stmt := top 19
abbrev sCkTold : Stmt := top 20
abbrev sOfSize : Stmt := top 21
abbrev sShared : Stmt := top 22
abbrev sHad : Stmt := top 23
abbrev sLB : Stmt := top 24
abbrev sPool : Stmt := top 26
abbrev sTake : Stmt := top 27
abbrev sLot : Stmt := top 28
abbrev sLAll : Stmt := top 29
abbrev sTried : Stmt := top 30
abbrev sLSafe : Stmt := top 31
abbrev sParts : Stmt := top 32
abbrev sLLeast : Stmt := top 33
abbrev sRight : Stmt := top 34
abbrev sRefused : Stmt := top 35
abbrev sLaw : Stmt := top 36
/-- what the top has left of constants and built-ins -/
structure Cst (mg : Str → Option Value) : Prop where
  isi : mg "isinstance" = none
  len : mg "len" = none
  tint : mg "int" = none
  tbool : mg "bool" = none
  tlst : mg "list" = none
  ttup : mg "tuple" = none
  tset : mg "set" = none
  rng : mg "range" = none
  max_ : mg "max" = none
  min_ : mg "min" = none
  rpr : mg "repr" = none
  enum : mg "enumerate" = none
  srt : mg "sorted" = none
  all_ : mg "all" = none
  any_ : mg "any" = none
  zip_ : mg "zip" = none
  copies : ∃ t, mg "MOST_COPIES" = some (.int 5 t)
  pages : ∃ t, mg "MOST_PAGES" = some (.int 6 t)
/-- a def of the text as its callers see it -/
structure Df (P : Program) (w : World) (K : PySem.W.Frag) (mg : Str → Option Value) (base : Heap) (k : Nat) (x : Str) (ps : List Str) (sp : Sp) : Prop where
  ex : ∃ (f : Addr) (fd : FuncData), FnOk P w K mg base CX0 k f fd ps sp ∧ mg x = some (.ref f) ∧ PySem.W.keepIn K (.ref f) = true ∧ Binds K fd ps []
/-- one that may raise -/
structure DfX (P : Program) (w : World) (K : PySem.W.Frag) (mg : Str → Option Value) (base : Heap) (k : Nat) (x : Str) (ps : List Str) (sp : Sp) : Prop where
  ex : ∃ (f : Addr) (fd : FuncData), FnOk P w K mg base (L2.CX P w) k f fd ps sp ∧ mg x = some (.ref f) ∧ PySem.W.keepIn K (.ref f) = true ∧ Binds K fd ps []
/-- a flat value and what it is -/
inductive Fl : V → PyData → Prop
  | non : Fl .non .none
  | bl (b : Bool) : Fl (.bl b) (.bool b)
  | int (i : Int) : Fl (.int i) (.int i)
  | str (x : Str) : Fl (.str x) (.str x)
theorem Fl.dv {v : V} {d : PyData} {m : Bool} {z : Addr} {H : Hp} {k : Bool} (h : Fl v d) : Dv m z H k v d := by
  cases h with
  | non => exact .non
  | bl b => exact .bl b
  | int i => exact .int i
  | str x => exact .str x
def kindOf : PyData → String
  | .none => "NoneType"
  | .bool _ => "bool"
  | .int _ => "int"
  | _ => "str"
theorem Fl.ty {K : PySem.W.Frag} {H : Hp} {v : V} {d : PyData} (h : Fl v d) : TyX K H v (.type (kindOf d)) := by
  cases h with
  | non => exact .base .non
  | bl b => exact .base (.bl b)
  | int i => exact .base (.int i)
  | str x => exact .base (.str x)
def isIB : PyData → Bool
  | .int _ => true
  | .bool _ => true
  | _ => false
theorem kit_int {K : PySem.W.Frag} {v : V} {d : PyData} (h : Fl v d) : PySem.W.kitOne K (.type (kindOf d)) (.type "int") = some (isIB d) := by
  cases h with
  | non => exact kit_ty (show kitB "NoneType" "int" = some false from by decide +kernel)
  | bl b => exact kit_ty (show kitB "bool" "int" = some true from by decide +kernel)
  | int i => exact kit_ty (show kitB "int" "int" = some true from by decide +kernel)
  | str x => exact kit_ty (show kitB "str" "int" = some false from by decide +kernel)
def isB : PyData → Bool
  | .bool _ => true
  | _ => false
theorem kit_bool {K : PySem.W.Frag} {v : V} {d : PyData} (h : Fl v d) : PySem.W.kitOne K (.type (kindOf d)) (.type "bool") = some (isB d) := by
  cases h with
  | non => exact kit_ty (show kitB "NoneType" "bool" = some false from by decide +kernel)
  | bl b => exact kit_ty (show kitB "bool" "bool" = some true from by decide +kernel)
  | int i => exact kit_ty (show kitB "int" "bool" = some false from by decide +kernel)
  | str x => exact kit_ty (show kitB "str" "bool" = some false from by decide +kernel)
def isNum : PyData → Bool
  | .int _ => true
  | _ => false
def within (d : PyData) (lo hi : Int) : Bool := match d with
  | .int i => decide (lo ≤ i) && decide (i ≤ hi)
  | _ => false
theorem within_no {d : PyData} {lo hi : Int} (h : isNum d = false) : within d lo hi = false := by
  cases d <;> first | rfl | cases h
theorem within_inv {v : V} {d : PyData} {lo hi : Int} (f : Fl v d) (h : within d lo hi = true) : ∃ i, v = .int i ∧ d = .int i ∧ lo ≤ i ∧ i ≤ hi := by
  cases f with
  | int i =>
    have h' : (decide (lo ≤ i) && decide (i ≤ hi)) = true := h
    rw [Bool.and_eq_true, decide_eq_true_eq, decide_eq_true_eq] at h'
    exact ⟨i, rfl, rfl, h'.1, h'.2⟩
  | non => cases h
  | bl b => cases h
  | str x => cases h
def spN : Sp := fun vs H Q _ => ∃ (v : V) (d : PyData), vs = [v] ∧ Fl v d ∧ Q (.bl (isNum d)) H
def spW : Sp := fun vs H Q _ => ∃ (v : V) (d : PyData) (lo hi : Int), vs = [v, .int lo, .int hi] ∧ Fl v d ∧ Q (.bl (within d lo hi)) H
section
variable {P : Program} {K : PySem.W.Frag} {w : World} {base : Heap} {mg : Str → Option Value}
theorem scIsNumber : FnScope ["value"] ["value"] (defScope sIsNumber) := ⟨rfl, rfl, rfl, by decide +kernel, rfl, by decide +kernel, by decide +kernel⟩
theorem ok_number {f : Addr} {fd : FuncData} (F : Fun K "is_number" "is_number" sIsNumber f fd) (T : Cst mg) : FnOk P w K mg base CX0 1 f fd ["value"] spN := by
  refine F.ok scIsNumber (fun vs H Q E h => ?_) (fun cdv A outer s H vs Q E hr h => ?_)
  · obtain ⟨v, d, rfl, _⟩ := h
    rfl
  · obtain ⟨v, d, rfl, hd, q⟩ := h
    refine ⟨_, pss_one (ps_ret (pe_and (pe_callB call_isi (by rfl) T.isi (by decide +kernel) (pa_cons (pv 0) (pa_cons (pe_bltn (v := .ty "int") (by rfl) T.tint (by decide +kernel) rfl) pa_nil)))
      (pe_one (pe_not (pe_callB call_isi (by rfl) T.isi (by decide +kernel) (pa_cons (pv 0) (pa_cons (pe_bltn (v := .ty "bool") (by rfl) T.tbool (by decide +kernel) rfl) pa_nil))))))), ?_⟩
    refine ⟨_, rfl, v, _, _, _, _, rfl, .ty _, hd.ty, kit_int hd, _, rfl, ?_⟩
    refine ite2 (fun e => ?_) fun e => ?_
    · refine ⟨_, rfl, v, _, _, _, _, rfl, .ty _, hd.ty, kit_bool hd, _, rfl, ?_⟩
      cases hd <;> first | exact q | cases e
    · cases hd <;> first | exact q | exact absurd rfl e
theorem scIsWithin : FnScope ["value", "least", "most"] ["value", "least", "most"] (defScope sIsWithin) := ⟨rfl, rfl, rfl, by decide +kernel, rfl, by decide +kernel, by decide +kernel⟩
theorem ok_within {f : Addr} {fd : FuncData} (F : Fun K "is_within" "is_within" sIsWithin f fd) (D : Df P w K mg base 1 "is_number" ["value"] spN) : FnOk P w K mg base CX0 2 f fd ["value", "least", "most"] spW := by
  obtain ⟨fN, fdN, GN, mN, kN, bN⟩ := D.ex
  refine F.ok scIsWithin (fun vs H Q E h => ?_) (fun cdv A outer s H vs Q E hr h => ?_)
  · obtain ⟨v, d, lo, hi, rfl, _⟩ := h
    rfl
  · obtain ⟨v, d, lo, hi, rfl, hd, q⟩ := h
    refine ⟨_, pss_one (ps_ret (pe_and (pe_call GN hr (by rfl) mN kN bN .nil pass0 (pa_cons (pv 0) pa_nil)) (pe_one (pe_chain op_le op_le (pv 1) (pv 0) (pv 2))))), ?_⟩
    refine ⟨v, rfl, v, d, rfl, hd, ⟨_, rfl, ?_⟩⟩
    refine ite2 (fun e => ?_) fun e => ?_
    · cases hd with
      | int i =>
        refine ⟨_, rfl, _, rfl, _, _, rfl, rfl, _, rfl, ?_⟩; skip
        have q2 : Q (.bl (decide (lo ≤ i) && decide (i ≤ hi))) H := q
        refine ite2 (fun e => ?_) fun e => ?_
        · refine ⟨_, rfl, _, _, rfl, rfl, ?_⟩
          rw [show decide (lo ≤ i) = true from e, Bool.true_and] at q2
          exact q2
        · rw [show decide (lo ≤ i) = false from Bool.eq_false_iff.mpr e, Bool.false_and] at q2
          exact q2
      | non => cases e
      | bl b => cases e
      | str x => cases e
    · rw [within_no (Bool.eq_false_iff.mpr e)] at q
      exact q
end
/-- what the written part says of an error's class: C, called x, made by the def at fI -/
structure ErrT (K : PySem.W.Frag) (mg : Str → Option Value) (x : Str) (C fI : Addr) : Prop where
  ox : OexC K C
  gC : mg x = some (.ref C)
  iC : PySem.W.findIn K (.ref C) "__init__" = some (some (.ref fI))
  tI : PySem.W.typeIn K (.ref fI) = some (.type "function")
  no : PySem.W.findIn K (.ref C) "told" = some none
def spInit (K : PySem.W.Frag) : Sp := fun vs H Q _ => ∃ (a C : Addr) (y : V), vs = [.ref a, y] ∧ OexC K C ∧ PySem.W.findIn K (.ref C) "told" = some none ∧ H a = some (exo a C none) ∧ ∀ dx, H dx = none → dx ≠ a → Q .non (upd (upd H dx (exd dx [("told", y)])) a (exo a C (some dx)))
/-- how the class is made, as the raising defs see it -/
structure Mak (P : Program) (w : World) (K : PySem.W.Frag) (mg : Str → Option Value) (base : Heap) (x : Str) (C : Addr) : Prop where
  ex : ∃ (fI : Addr) (fd : FuncData), ErrT K mg x C fI ∧ FnOk P w K mg base CX0 1 fI fd ["self", "told"] (spInit K) ∧ Binds K fd ["self", "told"] []
/-- C(v) leaves -/
def Rais (C : Addr) (v : V) (H : Hp) (E : XK) : Prop := ∀ (d : Addr) (H' : Hp), Same H H' → H' d = some (.xd [("told", v)]) → E (.ref C) (some d) H'
theorem Rais.same {C : Addr} {v : V} {H G : Hp} {E : XK} (r : Rais C v H E) (s : Same H G) : Rais C v G E := fun d H' s' h => r d H' (s.trans s') h
/-- raise C(e), where e reads as v -/
theorem raised {K : PySem.W.Frag} {C : Addr} {v : V} {σ : L2.St} {H : Hp} {E : XK} {ta : TA} (ox : OexC K C) (no : PySem.W.findIn K (.ref C) "told" = some none) (h : ∀ k : List V → Hp → Prop, k [v] H → ta σ H k) (q : Rais C v H E) : tMkO C (spInit K) [] ta σ H E := by
  refine h _ ⟨by simp, fun a ha => ?_⟩
  refine ⟨a, C, v, rfl, ox, no, upd_same, fun dx hdx ne => ⟨rfl, dx, [(("told" : Str), v)], upd_same, ?_, ?_, ?_⟩⟩
  · rw [upd_ne ne, upd_same]
  · rw [upd_ne ne] at hdx
    exact hdx
  · have hdG : H dx = none := by
      rw [upd_ne ne] at hdx
      exact hdx
    refine q dx _ (fun b o hb => ?_) upd_same
    have n1 : b ≠ dx := ne_of_none hb hdG
    have n2 : b ≠ a := ne_of_none hb ha
    rw [upd_ne n1, del_ne n2, upd_ne n2, upd_ne n1, upd_ne n2]
    exact hb
theorem raised_v {K : PySem.W.Frag} {C : Addr} {v : V} {i : Nat} {σ : L2.St} {H : Hp} {E : XK} (ox : OexC K C) (no : PySem.W.findIn K (.ref C) "told" = some none) (hv : σ[i]? = some (some v)) (q : Rais C v H E) : tMkO C (spInit K) [] (tCons (tVar i) tNil) σ H E :=
  raised ox no (fun k hk => ⟨v, hv, hk⟩) q
theorem raised_c {K : PySem.W.Frag} {C : Addr} {v : V} {σ : L2.St} {H : Hp} {E : XK} (ox : OexC K C) (no : PySem.W.findIn K (.ref C) "told" = some none) (q : Rais C v H E) : tMkO C (spInit K) [] (tCons (tC v) tNil) σ H E :=
  raised ox no (fun k hk => hk) q
section
variable {P : Program} {K : PySem.W.Frag} {w : World} {base : Heap} {mg : Str → Option Value} {C C2 C3 : Addr}
theorem scInit2 : FnScope ["self", "told"] ["self", "told"] (defScope (inClass (top 2) 0)) := ⟨rfl, rfl, rfl, by decide +kernel, rfl, by decide +kernel, by decide +kernel⟩
theorem ok_init2 {f : Addr} {fd : FuncData} (F : Fun K "__init__" "NoCount.__init__" (inClass (top 2) 0) f fd) : FnOk P w K mg base CX0 1 f fd ["self", "told"] (spInit K) := by
  refine F.ok scInit2 (fun vs H Q E h => ?_) (fun cdv A outer s H vs Q E hr h => ?_)
  · obtain ⟨a, C, y, rfl, _⟩ := h
    rfl
  · obtain ⟨a, C, y, rfl, T, no, ha, q⟩ := h
    exact ⟨_, pss_one (ps_ost (pv 0) (pv 1)), y, rfl, .ref a, rfl, a, C, rfl, T, no, .inl ⟨ha, q⟩⟩
theorem scInit3 : FnScope ["self", "told"] ["self", "told"] (defScope (inClass (top 3) 0)) := ⟨rfl, rfl, rfl, by decide +kernel, rfl, by decide +kernel, by decide +kernel⟩
theorem ok_init3 {f : Addr} {fd : FuncData} (F : Fun K "__init__" "NoLot.__init__" (inClass (top 3) 0) f fd) : FnOk P w K mg base CX0 1 f fd ["self", "told"] (spInit K) := by
  refine F.ok scInit3 (fun vs H Q E h => ?_) (fun cdv A outer s H vs Q E hr h => ?_)
  · obtain ⟨a, C, y, rfl, _⟩ := h
    rfl
  · obtain ⟨a, C, y, rfl, T, no, ha, q⟩ := h
    exact ⟨_, pss_one (ps_ost (pv 0) (pv 1)), y, rfl, .ref a, rfl, a, C, rfl, T, no, .inl ⟨ha, q⟩⟩
/-- v is checked -/
def Ck (C : Addr) (v : V) (d : PyData) (lo hi : Int) (H : Hp) (E : XK) (G : Prop) : Prop := Fl v d ∧ (within d lo hi = true → G) ∧ (within d lo hi = false → Rais C v H E)
theorem within_yes {i lo hi : Int} (a : lo ≤ i) (b : i ≤ hi) : within (.int i) lo hi = true := by
  show (decide (lo ≤ i) && decide (i ≤ hi)) = true
  rw [decide_eq_true a, decide_eq_true b]
  rfl
theorem ck_int {i lo hi : Int} {H : Hp} {E : XK} {G : Prop} (a : lo ≤ i) (b : i ≤ hi) (g : G) : Ck C (.int i) (.int i) lo hi H E G := ⟨.int i, fun _ => g, fun e => by
  rw [within_yes a b] at e
  cases e⟩
theorem ck_odd {v : V} {e : PyData} {lo hi : Int} {H : Hp} {E : XK} {G : Prop} (f : Fl v e) (n : within e lo hi = false) (r : Rais C v H E) : Ck C v e lo hi H E G := ⟨f, (fun (y : within e lo hi = true) => by
  rw [n] at y
  cases y), fun _ => r⟩
def spCk (C : Addr) : Sp := fun vs H Q E => ∃ (v : V) (d : PyData) (lo hi : Int), vs = [v, .int lo, .int hi] ∧ Ck C v d lo hi H E (Q .non H)
theorem scCheck : FnScope ["value", "least", "most"] ["value", "least", "most"] (defScope sCheck) := ⟨rfl, rfl, rfl, by decide +kernel, rfl, by decide +kernel, by decide +kernel⟩
theorem ok_check {f : Addr} {fd : FuncData} (F : Fun K "_check_count" "_check_count" sCheck f fd) (M : Mak P w K mg base "NoCount" C)
    (D1 : Df P w K mg base 2 "is_within" ["value", "least", "most"] spW) : FnOk P w K mg base (L2.CX P w) 3 f fd ["value", "least", "most"] (spCk C) := by
  obtain ⟨e1, fd1, G1, m1, k1, b1⟩ := D1.ex
  obtain ⟨fI, fdI, TE, GI, bI⟩ := M.ex
  refine F.okX scCheck (fun vs H Q E h => ?_) (fun cdv A outer s H vs Q E hr h => ?_)
  · obtain ⟨v, d, lo, hi, rfl, _⟩ := h
    rfl
  · obtain ⟨v, d, lo, hi, rfl, hd, q1, q2⟩ := h
    refine ⟨_, pss_one (ps_if (pt_not (pt_val (pe_call G1 hr (by rfl) m1 k1 b1 .nil pass0 (pa_cons (pv 0) (pa_cons (pv 1) (pa_cons (pv 2) pa_nil))))))
      (pss_one (ps_raise rfl (takes_of rfl rfl rfl rfl) (pmk_oex TE.ox TE.iC TE.tI GI (hr.mono (by decide)) bI .nil pass0 (by rfl) TE.gC (pa_cons (pv 0) pa_nil)))) pss_nil), ?_⟩
    refine ⟨v, rfl, _, rfl, _, rfl, v, d, lo, hi, rfl, hd, ⟨_, rfl, ?_⟩⟩
    refine ite2 (fun e => raised_v TE.ox TE.no rfl (q2 (by simpa using e))) fun e => q1 (by simpa using e)
/-- five counts, checked one behind another -/
def Cks (C : Addr) (v1 v2 v3 v4 v5 : V) (H : Hp) (E : XK) (G : Int → Int → Int → Int → Int → Prop) : Prop :=
  ∃ d1, Ck C v1 d1 1 5 H E (∀ c, v1 = .int c → 1 ≤ c → c ≤ 5 → ∃ d2, Ck C v2 d2 1 c H E (∀ r, v2 = .int r → 1 ≤ r → r ≤ c → ∃ d3, Ck C v3 d3 1 c H E (∀ w, v3 = .int w → 1 ≤ w → w ≤ c → ∃ d4, Ck C v4 d4 0 c H E (∀ u, v4 = .int u → 0 ≤ u → u ≤ c → ∃ d5, Ck C v5 d5 1 6 H E
    (∀ p, v5 = .int p → 1 ≤ p → p ≤ 6 → G c r w u p)))))
def spCks (C : Addr) (g : Int → Int → Int → Int → Int → Hp → VK → Prop) : Sp := fun vs H Q E => ∃ v1 v2 v3 v4 v5, vs = [v1, v2, v3, v4, v5] ∧ Cks C v1 v2 v3 v4 v5 H E fun c r w u p => g c r w u p H Q
theorem scCounts : FnScope ["count", "reads", "writes", "unruly", "pages"] ["count", "reads", "writes", "unruly", "pages"] (defScope sCounts) := ⟨rfl, rfl, rfl, by decide +kernel, rfl, by decide +kernel, by decide +kernel⟩
theorem ok_counts {f : Addr} {fd : FuncData} (F : Fun K "check_counts" "check_counts" sCounts f fd) (T : Cst mg) (D1 : DfX P w K mg base 3 "_check_count" ["value", "least", "most"] (spCk C)) :
    FnOk P w K mg base (L2.CX P w) 4 f fd ["count", "reads", "writes", "unruly", "pages"] (spCks C fun _ _ _ _ _ H Q => Q .non H) := by
  obtain ⟨e1, fd1, G1, m1, k1, b1⟩ := D1.ex
  obtain ⟨t1, hc⟩ := T.copies
  obtain ⟨t2, hp⟩ := T.pages
  refine F.okX scCounts (fun vs H Q E h => ?_) (fun cdv A outer s H vs Q E hr h => ?_)
  · obtain ⟨v1, v2, v3, v4, v5, rfl, _⟩ := h
    rfl
  · obtain ⟨v1, v2, v3, v4, v5, rfl, d1, f1, q1, r1⟩ := h
    refine ⟨_, pss_cons (ps_expr (pe_call (E := E) G1 hr (by rfl) m1 k1 b1 .nil (passes_call (takes_of rfl rfl rfl rfl) fun _ _ _ _ h => h) (pa_cons (pv 0) (pa_cons pe_int (pa_cons (pe_glob (v := .int 5) (by rfl) hc ⟨_, rfl⟩) pa_nil)))))
      (pss_cons (ps_expr (pe_call (E := E) G1 hr (by rfl) m1 k1 b1 .nil (passes_call (takes_of rfl rfl rfl rfl) fun _ _ _ _ h => h) (pa_cons (pv 1) (pa_cons pe_int (pa_cons (pv 0) pa_nil)))))
      (pss_cons (ps_expr (pe_call (E := E) G1 hr (by rfl) m1 k1 b1 .nil (passes_call (takes_of rfl rfl rfl rfl) fun _ _ _ _ h => h) (pa_cons (pv 2) (pa_cons pe_int (pa_cons (pv 0) pa_nil)))))
      (pss_cons (ps_expr (pe_call (E := E) G1 hr (by rfl) m1 k1 b1 .nil (passes_call (takes_of rfl rfl rfl rfl) fun _ _ _ _ h => h) (pa_cons (pv 3) (pa_cons pe_int (pa_cons (pv 0) pa_nil)))))
      (pss_one (ps_expr (pe_call (E := E) G1 hr (by rfl) m1 k1 b1 .nil (passes_call (takes_of rfl rfl rfl rfl) fun _ _ _ _ h => h) (pa_cons (pv 4) (pa_cons pe_int (pa_cons (pe_glob (v := .int 6) (by rfl) hp ⟨_, rfl⟩) pa_nil))))))))), ?_⟩
    refine ⟨v1, rfl, v1, d1, 1, 5, rfl, f1, fun i1 => ?_, r1⟩
    obtain ⟨c, rfl, _, c0, c1⟩ := within_inv f1 i1
    obtain ⟨d2, f2, q2, r2⟩ := q1 i1 c rfl c0 c1
    refine ⟨v2, rfl, _, rfl, v2, d2, 1, c, rfl, f2, fun i2 => ?_, r2⟩
    obtain ⟨r, rfl, _, c0, c1⟩ := within_inv f2 i2
    obtain ⟨d3, f3, q3, r3⟩ := q2 i2 r rfl c0 c1
    refine ⟨v3, rfl, _, rfl, v3, d3, 1, c, rfl, f3, fun i3 => ?_, r3⟩
    obtain ⟨w, rfl, _, c0, c1⟩ := within_inv f3 i3
    obtain ⟨d4, f4, q4, r4⟩ := q3 i3 w rfl c0 c1
    refine ⟨v4, rfl, _, rfl, v4, d4, 0, c, rfl, f4, fun i4 => ?_, r4⟩
    obtain ⟨u, rfl, _, c0, c1⟩ := within_inv f4 i4
    obtain ⟨d5, f5, q5, r5⟩ := q4 i4 u rfl c0 c1
    refine ⟨v5, rfl, v5, d5, 1, 6, rfl, f5, fun i5 => ?_, r5⟩
    obtain ⟨p, rfl, _, c0, c1⟩ := within_inv f5 i5
    exact q5 i5 p rfl c0 c1
end
end Pl

namespace Pl
open L2 PySem PySem.Spec PyProof.Rows RZ
theorem same_up {p : Addr} {H : Hp} {o : HO} (f : H p = none) : Same H (L2.upd H p o) := fun b u e => (upd_ne (ne_of_none e f)).trans e
theorem Same.free' {H G : Hp} {p : Addr} (s : Same H G) (f : G p = none) : H p = none := s.free f
theorem take_next1 {α : Type} {xs : List α} {i : Nat} {x : α} (h : xs[i]? = some x) : xs.take (i + 1) = xs.take i ++ [x] := by
  rw [List.take_add_one, h]
  rfl
theorem zV_get {xs : Z} {i : Nat} {y : V} (h : (xs.map V.int)[i]? = some y) : ∃ x, xs[i]? = some x ∧ y = .int x := by
  rw [List.getElem?_map] at h
  cases e : xs[i]? with
  | none =>
    rw [e] at h
    cases h
  | some x =>
    rw [e] at h
    exact ⟨x, rfl, (Option.some.inj h).symm⟩
theorem flatZ (ys : Z) : (ys.map V.int).all flatV = true := by
  rw [List.all_eq_true]
  intro v hv
  obtain ⟨y, _, rfl⟩ := List.mem_map.mp hv; skip
  rfl
theorem inZ (x : Int) : ∀ ys : Z, inV (.int x) (ys.map V.int) = has ys x
  | [] => by simp [inV, has]
  | y :: ys => by
    have ih := inZ x ys
    unfold inV has at *
    rw [List.map_cons, List.any_cons, ih]
    have e : eqV (V.int y) (V.int x) = decide (y = x) := by
      show (y == x) = decide (y = x)
      by_cases h : y = x <;> simp [h]
    rw [e]
    by_cases h : y = x
    · subst h
      simp
    · by_cases h2 : x ∈ ys
      · simp [h, h2]
      · have h3 : ¬ x = y := fun z => h z.symm
        simp [h, h2, h3]
theorem walk_core {J : It} {n : Nat} {G : Hp → Prop} {Y : Nat → Hp → V → Hp → Prop} (w : L2.Walk J n G Y) {Body : (Hp → Prop) → V → Hp → Prop} {H0 : Hp} {Qd : Hp → Prop} (Pv : Nat → Hp → Prop) (h0 : Pv 0 H0) (hG : ∀ i H, i ≤ n → Pv i H → G H)
    (hs : ∀ i x H H', i < n → Pv i H → Y i H x H' → Body (Pv (i + 1)) x H') (hd : ∀ H, Pv n H → Qd H) :
    ∃ W : Nat → Nat → Hp → Prop, (∃ m, W 0 m H0) ∧ ∀ i m H, W i m H →
      (J.stop i H ∧ Qd H) ∨ (J.go i H ∧ ∃ Nx : Hp → Prop, (∀ H', Nx H' → ∃ m', m' < m ∧ W (i + 1) m' H') ∧ ∀ x H', J.yld i H x H' → Body Nx x H') := by
  refine ⟨fun i m H => m = n - i ∧ i ≤ n ∧ Pv i H, ⟨n, rfl, Nat.zero_le _, h0⟩, ?_⟩
  rintro i m H ⟨rfl, hi, p⟩
  have q := hG i H hi p
  by_cases hlt : i < n
  · exact .inr ⟨w.goes i H hlt q, Pv (i + 1), fun H' p' => ⟨n - (i + 1), Nat.sub_lt_sub_left hlt (Nat.lt_succ_self i), rfl, hlt, p'⟩, fun x H' y => hs i x H H' hlt p (w.yields i H x H' hlt q y)⟩
  · obtain rfl : i = n := by omega
    exact .inl ⟨w.stops H q, hd H p⟩; skip
theorem seq_by {t1 t2 : TS} {D : Ends} {σ : L2.St} {H : Hp} (Mid : L2.St → Hp → Prop) (h2 : ∀ σ' H', Mid σ' H' → t2 D σ' H') (h1 : (∀ σ' H', Mid σ' H' → t2 D σ' H') → t1 { D with nx := t2 D } σ H) : tSeq t1 t2 D σ H := h1 h2
theorem walk_zipT {K : PySem.W.Frag} {a b : Addr} {xs ys : List V} (h : ys.length ≤ xs.length) : L2.Walk (ItzT K a b) ys.length (fun H => SqT K H a xs ∧ SqT K H b ys) (YPair (fun i => xs[i]?) (fun i => ys[i]?)) := by
  refine ⟨fun i H hi q => ⟨xs, ys, xs[i]'(by omega), ys[i], q.1, q.2, by simp [show i < xs.length by omega], by simp [hi]⟩, fun H q => ⟨xs, ys, q.1, q.2, .inr (Nat.le_refl _)⟩, ?_⟩
  rintro i H v H' hi q ⟨T, x, y, h1, h2, h3, h4, h5⟩
  exact ⟨T, x, y, h1, h2, h3, h4 xs q.1, h5 ys q.2⟩
/-- a turn of [.. for .. in .. if p]: what it told so far lies at D -/
theorem lc_yes {H G : Hp} {D : Addr} {acc : List V} {v : V} {R : Hp → Prop} (hD : H D = none) (s : Same H G) (h : G D = some (.lst acc)) (l : acc.length ≤ 1000) (q : ∀ G', Same H G' → G' D = some (.lst (acc ++ [v])) → R G') : ∃ ac, G D = some (.lst ac) ∧ ac.length < sizeLine ∧ R (upd G D (.lst (ac ++ [v]))) :=
  ⟨_, h, small1000 l, q _ (fun b o hb => by
    rw [upd_ne (ne_of_none hb hD)]
    exact s b o hb) upd_same⟩
theorem sup {H G : Hp} {D : Addr} {o : HO} (hD : H D = none) (s : Same H G) : Same H (upd G D o) := fun b u hb => by
  rw [upd_ne (ne_of_none hb hD)]
  exact s b u hb
theorem noPart {σ : L2.St} {H : Hp} {Q : Option Int → Hp → Prop} (h : Q none H) : tNoPart σ H Q := h
theorem sl_any {K : PySem.W.Frag} {H : Hp} {a : Addr} {xs : List V} {lo hi : Option Int} {Q : VK} (h : H a = some (.tup xs)) (q : ∀ p H', Same H H' → H' p = some (.tup (cutV xs lo hi)) → Q (.ref p) H') : rSlA K (.ref a) lo hi H Q := by
  refine ⟨a, xs, rfl, SqT.of h, fun w => q a H (fun _ _ e => e) ?_, fun w p hp => q p _ (same_up hp) upd_same⟩
  unfold cutV
  rw [w.1, w.2, List.drop_zero, Nat.sub_zero, List.take_length]
  exact h
theorem cut_tail (xs : List V) : cutV xs (some 1) none = xs.drop 1 := by
  unfold cutV
  rw [HT.sIx_none, show HT.sIx xs.length 0 (some 1) = min 1 xs.length from HT.sIx_nat xs.length 0 1]
  by_cases h : xs = []
  · subst h
    rfl
  · have : 1 ≤ xs.length := by
      have := List.length_pos_iff.mpr h
      omega
    rw [Nat.min_eq_left this, List.take_of_length_le]
    rw [List.length_drop]
    exact Nat.le_refl _
theorem filt_snoc {α : Type} {xs : List α} {i : Nat} {x : α} (h : xs[i]? = some x) (p : α → Bool) : (xs.take (i + 1)).filter p = (xs.take i).filter p ++ (if p x = true then [x] else []) := by
  rw [take_next1 h, List.filter_append, List.filter_cons]
  by_cases e : p x = true
  · rw [if_pos e, if_pos e]
    rfl
  · rw [if_neg e, if_neg e]
    rfl
theorem filt_len {α : Type} (xs : List α) (i : Nat) (p : α → Bool) : ((xs.take i).filter p).length ≤ xs.length := Nat.le_trans (List.length_filter_le _ _) (by
  rw [List.length_take]
  exact Nat.min_le_right _ _)
inductive FlL : List V → List PyData → Prop
  | nil : FlL [] []
  | cons {v : V} {d : PyData} {vs : List V} {ds : List PyData} (a : Fl v d) (t : FlL vs ds) : FlL (v :: vs) (d :: ds)
theorem FlL.len : ∀ {vs : List V} {ds : List PyData}, FlL vs ds → vs.length = ds.length
  | _, _, .nil => rfl
  | _, _, .cons _ t => congrArg Nat.succ t.len
theorem FlL.at : ∀ {vs : List V} {ds : List PyData} {i : Nat} {v : V}, FlL vs ds → vs[i]? = some v → ∃ d, ds[i]? = some d ∧ Fl v d
  | _, _, _, _, .nil, e => absurd e (by simp)
  | _, _, 0, _, .cons a _, e => by simp at e; subst e; exact ⟨_, rfl, a⟩
  | _, _, i + 1, _, .cons _ t, e => by
    obtain ⟨d, h1, h2⟩ := FlL.at (i := i) t (by simpa using e)
    exact ⟨d, by simpa using h1, h2⟩
theorem FlL.ints : ∀ ns : Z, FlL (ns.map V.int) (ns.map PyData.int)
  | [] => .nil
  | n :: ns => .cons (.int _) (FlL.ints ns)
/-- what is handed in as a lot -/
inductive Tz (K : PySem.W.Frag) (H : Hp) : V → Option (List PyData) → Prop
  | no {v : V} {kd : String} (t : ∀ G, Same H G → TyX K G v (.type kd)) (nt : PySem.W.kitOne K (.type kd) (.type "tuple") = some false) : Tz K H v none
  | tup {a : Addr} {vs : List V} {ds : List PyData} (h : H a = some (.tup vs)) (m : FlL vs ds) (l : vs.length ≤ 100) : Tz K H (.ref a) (some ds)
theorem Tz.same {K : PySem.W.Frag} {H G : Hp} {v : V} {o : Option (List PyData)} (h : Tz K H v o) (s : Same H G) : Tz K G v o := by
  cases h with
  | no t nt => exact .no (fun F x => t F (s.trans x)) nt
  | tup h m l => exact .tup (s _ _ h) m l
theorem Tz.lot {K : PySem.W.Frag} {H : Hp} {a : Addr} {l : Z} (h : H a = some (.tup (l.map V.int))) (n : l.length ≤ 100) : Tz K H (.ref a) (some (l.map PyData.int)) := .tup h (FlL.ints l) (by rw [List.length_map]; exact n)
def toI : PyData → Int
  | .int i => i
  | _ => 0
def asc (ns : Z) : Bool := (List.range (ns.length - 1)).all fun j => decide (ns.getD j 0 < ns.getD (j + 1) 0)
def okT (n : Int) : Option (List PyData) → Bool
  | none => false
  | some ds => (ds.all fun d => within d 0 (n - 1)) && asc (ds.map toI)
theorem okT_lot {n : Int} {l : Z} (h : Lot n l) : okT n (some (l.map PyData.int)) = true := by
  unfold okT
  rw [Bool.and_eq_true]
  constructor
  · rw [List.all_eq_true]
    intro d hd
    obtain ⟨x, hx, rfl⟩ := List.mem_map.mp hd
    have := h.2 x hx
    exact within_yes this.1 (by omega)
  · rw [List.map_map, show (toI ∘ PyData.int) = id from rfl, List.map_id]
    unfold asc
    rw [List.all_eq_true]
    intro j hj
    rw [List.mem_range] at hj
    have h1 : j < l.length := by omega
    have h2 : j + 1 < l.length := by omega
    rw [List.getD_eq_getElem?_getD, List.getD_eq_getElem?_getD, List.getElem?_eq_getElem h1, List.getElem?_eq_getElem h2]
    exact decide_eq_true (List.pairwise_iff_getElem.mp h.1 j (j + 1) h1 h2 (by omega))
def spIsLot (K : PySem.W.Frag) : Sp := fun vs H Q _ => ∃ (v : V) (n : Int) (o : Option (List PyData)), vs = [v, .int n] ∧ Tz K H v o ∧ ∀ H', Same H H' → Q (.bl (okT n o)) H'
def spCkLot (K : PySem.W.Frag) (C : Addr) : Sp := fun vs H Q E => ∃ (v : V) (n : Int) (o : Option (List PyData)), vs = [v, .int n] ∧ Tz K H v o ∧ (okT n o = true → ∀ H', Same H H' → Q .non H') ∧ (okT n o = false → Rais C v H E)
def spCommon : Sp := fun vs H Q _ => ∃ (a b : Addr) (xs ys : Z), vs = [.ref a, .ref b] ∧ H a = some (.tup (xs.map V.int)) ∧ H b = some (.tup (ys.map V.int)) ∧ xs.length ≤ 100 ∧ ∀ t H', Same H H' → H t = none → H' t = some (.tup ((cap xs ys).map V.int)) → Q (.ref t) H'
abbrev nIL : List Str := ["value", "count", "copy", "one", "other"]
section
variable {P : Program} {K : PySem.W.Frag} {w : World} {base : Heap} {mg : Str → Option Value} {C : Addr}
theorem scIsLot : FnScope nIL ["value", "count"] (defScope sIsLot) := ⟨rfl, rfl, rfl, by decide +kernel, rfl, by decide +kernel, by decide +kernel⟩
theorem ok_islot {f : Addr} {fd : FuncData} (F : Fun K "is_lot" "is_lot" sIsLot f fd) (T : Cst mg) (D1 : Df P w K mg base 2 "is_within" ["value", "least", "most"] spW) : FnOk P w K mg base CX0 3 f fd ["value", "count"] (spIsLot K) := by
  obtain ⟨e1, fd1, G1, m1, k1, b1⟩ := D1.ex
  refine F.ok scIsLot (fun vs H Q E h => ?_) (fun cdv A outer s0 H vs Q E hr h => ?_)
  · obtain ⟨v, n, o, rfl, _⟩ := h
    rfl
  · obtain ⟨v, n, o, rfl, hz, q⟩ := h
    refine ⟨_, pss_cons (ps_if (PW.pt (pw_or (pt_not (pt_val (pe_callB call_isi (by rfl) T.isi (by decide +kernel) (pa_cons (pv 0) (pa_cons (pe_bltn (v := .ty "tuple") (by rfl) T.ttup (by decide +kernel) rfl) pa_nil)))))
        (pw_or1 (pt_not (pt_val (pe_callB (cr_all rfl) (by rfl) T.all_ (by decide +kernel) (pa_cons (pe_lc (own := [("copy", 2)]) (g := gName 2) (tt := tYes) rfl scIsLot.nd (pi_tup (pv 0)) (blkOk_by (own := [("copy", 2)]) (N := nIL) (sc := defScope sIsLot) (by decide +kernel))
          (fun _ _ _ _ _ => pg_name (i := 2) scIsLot.nd rfl (Or.inl rfl)) (fun _ _ _ _ _ => pts_nil) (fun _ _ _ _ _ => pe_call G1 (hr.mono (by decide)) (by rfl) m1 k1 b1 .nil pass0 (pa_cons (pv 2) (pa_cons pe_int (pa_cons (pe_op op_sub (pv 1) pe_int) pa_nil))))) pa_nil)))))))
        (pss_one (ps_ret pe_bl)) pss_nil)
      (pss_one (ps_ret (pe_callB (cr_all rfl) (by rfl) T.all_ (by decide +kernel) (pa_cons (pe_lc (own := [("one", 3), ("other", 4)]) (g := gTup K 2 (gCons (gName 3) (gCons (gName 4) gNil))) (tt := tYes) rfl scIsLot.nd (pi_zipA (by rfl) T.zip_ (pa_cons (pv 0) (pa_cons (pe_slice sl_tupA (pv 0) (po_some pe_int) po_none) pa_nil))) (blkOk_by (own := [("one", 3), ("other", 4)]) (N := nIL) (sc := defScope sIsLot) (by decide +kernel))
          (fun _ _ _ _ _ => pg_tup rfl (pgs_cons (pg_name (i := 3) scIsLot.nd rfl (Or.inl rfl)) (pgs_cons (pg_name (i := 4) scIsLot.nd rfl (Or.inl rfl)) pgs_nil))) (fun _ _ _ _ _ => pts_nil) (fun _ _ _ _ _ => pe_cmpR op_lt (pv 3) (pv 4) (nomark _))) pa_nil)))), ?_⟩
    cases hz with
    | no t nt => exact ⟨v, rfl, v, _, _, _, _, rfl, .ty _, t _ (fun _ _ e => e), nt, _, rfl, iteT (iteT (q _ (fun _ _ e => e)))⟩
    | @tup a vs ds h m l =>
      refine ⟨.ref a, rfl, .ref a, _, _, _, _, rfl, .ty _, .base (.tup h), (kit_ty (show kitB "tuple" "tuple" = some true from by decide +kernel)), _, rfl, iteF ?_⟩
      have lm := m.len
      refine ⟨_, rfl, a, rfl, ⟨_, SqT.of h⟩, fun D hD => ?_⟩
      refine walk_core (walk_tup (K := K) (a := a) (xs := vs)) (fun i G => Same H G ∧ G D = some (.lst (((ds.take i).map fun d => within d 0 (n - 1)).map V.bl))) ⟨same_up hD, upd_same⟩ (fun _ _ _ g => SqT.of (g.1 _ _ h)) ?_ ?_
      · rintro i y G G' hi ⟨s1, hD1⟩ ⟨rfl, hy⟩
        obtain ⟨d, hd, fd⟩ := m.at hy
        refine ⟨rfl, _, rfl, _, rfl, _, _, rfl, rfl, _, d, 0, n - 1, rfl, fd, ?_⟩
        refine ⟨_, hD1, small1000 (by rw [List.length_map, List.length_map, List.length_take]; omega), sup hD s1, ?_⟩
        rw [upd_same, take_next1 hd, List.map_append, List.map_append]
        rfl
      · rintro G ⟨s1, hD1⟩
        rw [lm, List.take_length] at hD1
        refine ⟨D, _, rfl, SqL.of hD1, ⟨_, rfl, ?_⟩⟩
        have ea : ((ds.map fun d => within d 0 (n - 1)).all id) = ds.all fun d => within d 0 (n - 1) := by
          rw [List.all_map]
          rfl
        rw [ea]
        refine ite2 (fun e3 => ?_) fun e3 => ?_
        · have e4 : (ds.all fun d => within d 0 (n - 1)) = false := by simpa using e3
          have q2 : Q (.bl ((ds.all fun d => within d 0 (n - 1)) && asc (ds.map toI))) G := q _ s1
          rw [e4, Bool.false_and] at q2
          exact q2
        · have e4 : (ds.all fun d => within d 0 (n - 1)) = true := by simpa using e3
          have q2 : ∀ G', Same G G' → Q (.bl (asc (ds.map toI))) G' := fun G' s2 => by
            have q3 : Q (.bl ((ds.all fun d => within d 0 (n - 1)) && asc (ds.map toI))) G' := q G' (s1.trans s2)
            rw [e4, Bool.true_and] at q3
            exact q3
          have allI : vs = (ds.map toI).map V.int := by
            clear q2 q hD1 ea e3 h l lm s1
            induction m with
            | nil => rfl
            | @cons v d vs ds f t ih =>
              rw [List.all_cons, Bool.and_eq_true] at e4
              obtain ⟨i, rfl, rfl, _⟩ := within_inv f e4.1
              rw [List.map_cons, List.map_cons, ← ih e4.2]
              rfl
          generalize ds.map toI = ns at allI q2
          subst allI
          have hG := s1 _ _ h
          refine ⟨.ref a, rfl, .ref a, rfl, 1, rfl, noPart (sl_any hG fun b G2 s2 hb => ?_)⟩
          rw [cut_tail, ← List.map_drop] at hb
          refine ⟨a, b, _, _, rfl, .inr ⟨SqT.of (s2 _ _ hG), SqT.of hb, fun D2 hD2 => ?_⟩⟩
          have ln : (ns.drop 1).length = ns.length - 1 := List.length_drop
          refine walk_core (walk_zipT (K := K) (a := a) (b := b) (xs := ns.map V.int) (ys := (ns.drop 1).map V.int) (by rw [List.length_map, List.length_map, ln]; omega)) (fun i F => Same G2 F ∧ F D2 = some (.lst (((List.range i).map fun j => decide (ns.getD j 0 < ns.getD (j + 1) 0)).map V.bl))) ⟨same_up hD2, by rw [List.range_zero]; exact upd_same⟩ (fun _ _ _ g => ⟨SqT.of (g.1 _ _ (s2 _ _ hG)), SqT.of (g.1 _ _ hb)⟩) ?_ ?_
          · rintro i y F F' hi ⟨s3, hD3⟩ ⟨T0, x, z, rfl, hT, rfl, hx, hz⟩
            obtain ⟨x, ex, rfl⟩ := zV_get hx
            obtain ⟨z, ez, rfl⟩ := zV_get hz
            rw [List.length_map, ln] at hi
            rw [List.getElem?_drop] at ez
            have nT : T0 ≠ D2 := fun e => by
              rw [e, hD3] at hT
              cases hT
            refine ⟨T0, _, rfl, SqT.of upd_same, rfl, _, _, rfl, _, _, rfl, rfl, ?_⟩
            refine ⟨rfl, _, rfl, _, rfl, _, _, rfl, rfl, ?_⟩
            refine ⟨_, (upd_ne (Ne.symm nT)).trans hD3, small1000 (by rw [List.length_map, List.length_map, List.length_range]; rw [List.length_map] at l; omega), sup hD2 (s3.trans (same_up hT)), ?_⟩
            have ev : decide (ns.getD i 0 < ns.getD (i + 1) 0) = decide (x < z) := by
              rw [List.getD_eq_getElem?_getD, List.getD_eq_getElem?_getD, ex, show i + 1 = 1 + i from Nat.add_comm _ _, ez]
              rfl
            rw [upd_same, List.range_succ, List.map_append, List.map_append, List.map_singleton, List.map_singleton, ev]
          · rintro F ⟨s3, hD3⟩
            rw [List.length_map, ln] at hD3
            refine ⟨D2, _, rfl, SqL.of hD3, ?_⟩
            have ea : (((List.range (ns.length - 1)).map fun j => decide (ns.getD j 0 < ns.getD (j + 1) 0)).all id) = asc ns := by
              rw [List.all_map]
              rfl
            rw [ea]
            exact q2 _ (s2.trans s3)
theorem scCkLot : FnScope ["lot", "count"] ["lot", "count"] (defScope sCkLot) := ⟨rfl, rfl, rfl, by decide +kernel, rfl, by decide +kernel, by decide +kernel⟩
theorem ok_cklot {f : Addr} {fd : FuncData} (F : Fun K "check_lot" "check_lot" sCkLot f fd) (M : Mak P w K mg base "NoLot" C) (D1 : Df P w K mg base 3 "is_lot" ["value", "count"] (spIsLot K)) : FnOk P w K mg base (L2.CX P w) 4 f fd ["lot", "count"] (spCkLot K C) := by
  obtain ⟨e1, fd1, G1, m1, k1, b1⟩ := D1.ex
  obtain ⟨fI, fdI, TE, GI, bI⟩ := M.ex
  refine F.okX scCkLot (fun vs H Q E h => ?_) (fun cdv A outer s H vs Q E hr h => ?_)
  · obtain ⟨v, n, o, rfl, _⟩ := h
    rfl
  · obtain ⟨v, n, o, rfl, hz, q1, q2⟩ := h
    refine ⟨_, pss_one (ps_if (pt_not (pt_val (pe_call G1 hr (by rfl) m1 k1 b1 .nil pass0 (pa_cons (pv 0) (pa_cons (pv 1) pa_nil)))))
      (pss_one (ps_raise rfl (takes_of rfl rfl rfl rfl) (pmk_oex TE.ox TE.iC TE.tI GI (hr.mono (by decide)) bI .nil pass0 (by rfl) TE.gC (pa_cons (pv 0) pa_nil)))) pss_nil), ?_⟩
    refine ⟨v, rfl, _, rfl, v, n, o, rfl, hz, fun H' s' => ⟨_, rfl, ?_⟩⟩
    refine ite2 (fun e => raised_v TE.ox TE.no rfl ((q2 (by simpa using e)).same s')) fun e => q1 (by simpa using e) _ s'
theorem scCommon : FnScope ["one", "other", "copy"] ["one", "other"] (defScope sCommon) := ⟨rfl, rfl, rfl, by decide +kernel, rfl, by decide +kernel, by decide +kernel⟩
theorem ok_common {f : Addr} {fd : FuncData} (F : Fun K "in_common" "in_common" sCommon f fd) (T : Cst mg) : FnOk P w K mg base CX0 1 f fd ["one", "other"] spCommon := by
  refine F.ok scCommon (fun vs H Q E h => ?_) (fun cdv A outer s H vs Q E hr h => ?_)
  · obtain ⟨a, b, xs, ys, rfl, _⟩ := h
    rfl
  · obtain ⟨a, b, xs, ys, rfl, hA, hB, hl, q⟩ := h
    refine ⟨_, pss_one (ps_ret (pe_callTy call_tuple_of (by rfl) T.ttup (by decide +kernel) (pa_cons (pe_lc (own := [("copy", 2)]) (g := gName 2) (tt := _) rfl scCommon.nd (pi_tup (pv 0)) (blkOk_by (own := [("copy", 2)]) (N := ["one", "other", "copy"]) (sc := defScope sCommon) (by decide +kernel))
      (fun _ _ _ _ _ => pg_name (i := 2) scCommon.nd rfl (Or.inl rfl)) (fun _ _ _ _ _ => pts_one (pt_cmpR (show OpR _ (compareOp .In) (rIn K false) from op_in_seq) (pv 2) (pv 1) (by rfl))) (fun _ _ _ _ _ => pv 2)) pa_nil))), ?_⟩
    refine ⟨_, rfl, a, rfl, ⟨_, SqT.of hA⟩, fun D hD => ?_⟩
    refine walk_core (walk_tup (K := K) (a := a) (xs := xs.map V.int)) (fun i G => Same H G ∧ G D = some (.lst (((xs.take i).filter (has ys)).map V.int))) ⟨same_up hD, upd_same⟩ (fun _ _ _ g => SqT.of (g.1 _ _ hA)) ?_ ?_
    · rintro i y G G' hi ⟨s1, h1⟩ ⟨rfl, hy⟩
      obtain ⟨x, hx, rfl⟩ := zV_get hy
      refine ⟨rfl, _, rfl, _, rfl, b, _, rfl, .inr (SqT.of (s1 _ _ hB)), rfl, flatZ ys, _, rfl, ?_⟩
      have ei : inV (.int x) (ys.map V.int) = has ys x := inZ x ys
      refine ite2 (fun e => ?_) fun e => ?_
      · have e : has ys x = true := ei ▸ e
        refine ⟨_, rfl, _, h1, small1000 (by rw [List.length_map]; exact Nat.le_trans (filt_len xs i _) (by omega)), sup hD s1, ?_⟩
        rw [upd_same, filt_snoc hx, if_pos e, List.map_append]
        rfl
      · have e : ¬ has ys x = true := ei ▸ e
        refine ⟨s1, ?_⟩
        rw [filt_snoc hx, if_neg e, List.append_nil]
        exact h1
    · rintro G ⟨s1, h1⟩
      rw [List.length_map, List.take_length] at h1
      exact ⟨D, _, rfl, .inl ⟨SqL.of h1, fun t ht => q t _ (s1.trans (same_up ht)) (s1.free ht) upd_same⟩⟩
end
end Pl

namespace Pl
open L2 PySem PySem.Spec PyProof.Rows RZ
abbrev TbL := List (Addr × Str)
/-- a list of lots -/
def Lots (H : Hp) (p : Addr) (L : List AT) : Prop := H p = some (.lst (refs L)) ∧ ∀ q ∈ L, H q.1 = some (.tup (q.2.map V.int))
theorem Lots.same {H G : Hp} {p : Addr} {L : List AT} (h : Lots H p L) (s : Same H G) : Lots G p L := ⟨s _ _ h.1, fun q hq => s _ _ (h.2 q hq)⟩
theorem Lots.ext {H G : Hp} {p : Addr} {L : List AT} (h : Lots H p L) (s : LamX.ExtN H G) : Lots G p L := ⟨s _ _ h.1 (fun _ z => by cases z), fun q hq => s _ _ (h.2 q hq) (fun _ z => by cases z)⟩
theorem refs_len (L : List AT) : (refs L).length = L.length := List.length_map _
theorem refs_get {L : List AT} {i : Nat} {v : V} (h : (refs L)[i]? = some v) : ∃ p, L[i]? = some p ∧ v = .ref p.1 := by
  unfold refs at h
  rw [List.getElem?_map] at h
  cases e : L[i]? with
  | none =>
    rw [e] at h
    cases h
  | some p =>
    rw [e] at h
    exact ⟨p, rfl, (Option.some.inj h).symm⟩
theorem refs_app (L M : List AT) : refs (L ++ M) = refs L ++ refs M := List.map_append
theorem cat_any {K : PySem.W.Frag} {H : Hp} {a b : Addr} {xs ys : List V} {Q : VK} (ha : H a = some (.tup xs)) (hb : H b = some (.tup ys)) (l : xs.length + ys.length ≤ 1000) (q : ∀ p H', Same H H' → H' p = some (.tup (xs ++ ys)) → Q (.ref p) H') : rCatA K (.ref a) (.ref b) H Q := by
  refine ⟨a, b, xs, ys, rfl, rfl, SqT.of ha, SqT.of hb, Nat.le_of_lt (small1000 l), fun e => q b H (fun _ _ e => e) ?_, fun _ e => q a H (fun _ _ e => e) ?_, fun _ _ p hp => q p _ (same_up hp) upd_same⟩
  · rw [e, List.nil_append]
    exact hb
  · rw [e, List.append_nil]
    exact ha
theorem leK_eq (a b : AT) : leK a b = leZ a.2 b.2 := rfl
theorem sort_parts {L : List AT} {u : Z} (h : L.map (·.2) = subs u) : (L.mergeSort leK).map (·.2) = parts u := by
  rw [List.map_mergeSort (s := leZ) fun a _ b _ => leK_eq a b, h]
  rfl
/-- as Fun.ok, of a def whose code object is known -/
theorem okC1 {P : Program} {K : PySem.W.Frag} {w : World} {base : Heap} {mg : Str → Option Value} {x qual : Str} {st : Stmt} {f c : Addr} {fd : FuncData} {N ps : List Str} {k : Nat} {sp : Sp} (F : FunC K x qual st f c fd) (S : FnScope N ps (defScope st)) (len : ∀ vs H Q E, sp vs H Q E → vs.length = ps.length)
    (walk : ∀ (A : Around) (outer : List Env) (s : Shared) (H : Hp) (vs : List V) (Q : VK) (E : XK), Room k (A.deeper (envOfC qual (defScope st) s.heap.objs.size f (.ref c))) → sp vs H Q E →
      ∃ t, PSs (cxOf CX0 P w K mg base N qual (defScope st) f (.ref c) A outer s H E).nox (defBody st) t ∧ t { nx := fun _ H' => Q .non H', rt := Q } (start N vs) H) : FnOk P w K mg base CX0 (k + 1) f fd ps sp := by
  obtain ⟨oc, od, kV, doc, pm, an, ct, osl, rfl, lk, hcd⟩ := F.ex
  refine fn_of lk hcd S len fun A outer s H vs Q E hr hsp => ?_; skip
  obtain ⟨t, h, q⟩ := walk A outer s H vs Q E hr hsp
  exact ⟨t, h.nox, q⟩
/-- all lots within one are told, as a list or a tuple it is handed in -/
def spParts (Tb : TbL) : Sp := fun vs H Q _ => ∃ (a : Addr) (u : Z), vs = [.ref a] ∧ (H a = some (.tup (u.map V.int)) ∨ H a = some (.lst (u.map V.int))) ∧ u.length ≤ 5 ∧ LamX.Tabs Tb H ∧ ∀ p L G, LamX.ExtN H G → LamX.Tabs Tb G → Lots G p L → L.map (·.2) = parts u → Q (.ref p) G
def spPartsT (Tb : TbL) : Sp := fun vs H Q _ => ∃ (a : Addr) (u : Z), vs = [.ref a] ∧ H a = some (.tup (u.map V.int)) ∧ u.length ≤ 5 ∧ LamX.Tabs Tb H ∧ ∀ p L G, LamX.ExtN H G → LamX.Tabs Tb G → Lots G p L → L.map (·.2) = parts u → Q (.ref p) G
abbrev lamA : Str := (envOfC "all_lots" (defScope sAllLots) 0 0 (.ref 0)).qual ++ "<lambda>"
abbrev lamP : Str := (envOfC "_law_parts" (defScope sParts) 0 0 (.ref 0)).qual ++ "<lambda>"
abbrev lamR : Str := (envOfC "_law_refused" (defScope sRefused) 0 0 (.ref 0)).qual ++ "<lambda>"
theorem pow5 {i : Nat} (h : i ≤ 5) : 2 ^ i ≤ 32 := Nat.pow_le_pow_right (by decide) h
section
variable {P : Program} {K : PySem.W.Frag} {w : World} {base : Heap} {mg : Str → Option Value} {c Pt : Addr} {Tb : TbL}
abbrev N_alots : List Str := ["copies", "lots", "copy", "lot"]
theorem sc_alots : FnScope N_alots ["copies"] (defScope sAllLots) := ⟨rfl, rfl, rfl, by decide +kernel, rfl, by decide +kernel, by decide +kernel⟩
theorem ok_alots {f : Addr} {fd : FuncData} (F : FunC K "all_lots" "all_lots" sAllLots f c fd) (T : Cst mg) (TB : LamX.TabB base mg c Pt) (hT : (Pt, lamA) ∈ Tb) (hT1 : ∀ p ∈ Tb, p.1 = Pt → p.2 = lamA) : FnOk P w K mg base CX0 3 f fd ["copies"] (spParts Tb) := by
  refine okC1 F sc_alots (fun vs H Q E h => ?_) (fun A outer s0 H vs Q E hr h => ?_)
  · obtain ⟨a, u, rfl, _⟩ := h
    rfl
  · obtain ⟨a, u, rfl, ha, hl, hTb, q⟩ := h
    have it : ∃ (wi : TI) (J : It), PI (cxOf CX0 P w K mg base N_alots "all_lots" (defScope sAllLots) f (.ref c) A outer s0 H E).nox (match defBody sAllLots with
        | [_, .For tg _ _ _ _, _] => tg
        | _ => .Constant .none 0 ⟨0, 0, 0, 0⟩) (match defBody sAllLots with
        | [_, .For _ it _ _ _, _] => it
        | _ => .Constant .none 0 ⟨0, 0, 0, 0⟩) wi ∧ (∀ (σ : L2.St) (G : Hp) R, σ[0]? = some (some (.ref a)) → Same H G → R J G → wi σ G R) ∧ L2.Walk J u.length (fun G => Same H G) (YAt (u.map V.int)) := by
      rcases ha with ha | ha
      · refine ⟨_, Itt K a, pi_tup (pv 0), fun σ G R hσ sG r => ⟨_, hσ, a, rfl, ⟨_, SqT.of (sG _ _ ha)⟩, r⟩, ?_⟩
        have := walk_tup (K := K) (a := a) (xs := u.map V.int)
        rw [show (u.map V.int).length = u.length from List.length_map _] at this
        exact this.mono (fun G sG => SqT.of (sG _ _ ha)) fun _ _ _ _ _ _ y => y
      · refine ⟨_, Itl K a, pi_list (pv 0), fun σ G R hσ sG r => ⟨_, hσ, a, rfl, ⟨_, SqL.of (sG _ _ ha)⟩, r⟩, ?_⟩
        have := walk_list (K := K) (a := a) (xs := u.map V.int)
        rw [show (u.map V.int).length = u.length from List.length_map _] at this
        exact this.mono (fun G sG => SqL.of (sG _ _ ha)) fun _ _ _ _ _ _ y => y
    obtain ⟨wi, J, hit, hwi, hw⟩ := it
    refine ⟨_, pss_cons (ps_set (i := 1) sc_alots.nd rfl (Or.inl rfl) (pe_lst (pa_cons (pe_tup pa_nil) pa_nil)))
      (pss_cons (ps_for PassesOwn.never rfl hit (pg_name (i := 2) sc_alots.nd rfl (Or.inr rfl))
        (pss_one (ps_set (i := 1) sc_alots.nd rfl (Or.inl rfl) (pe_op op_cat (pv 1) (pe_lc (own := [("lot", 3)]) (g := gName 3) (tt := tYes) rfl sc_alots.nd (pi_list (pv 1)) (blkOk_by (own := [("lot", 3)]) (N := N_alots) (sc := defScope sAllLots) (by decide +kernel))
          (fun _ _ _ _ _ => pg_name (i := 3) sc_alots.nd rfl (Or.inl rfl)) (fun _ _ _ _ _ => pts_nil) (fun _ _ _ _ _ => pe_op (show OpR _ (binaryOp .Add) (rCatA K) from op_catA) (pv 3) (pe_tup (pa_cons (pv 2) pa_nil))))))))
      (pss_one (ps_ret (pe_sortLot (x := "lot") (c := c) (P := Pt) ⟨rfl, rfl, rfl, rfl, fun _ _ _ _ _ _ => rfl, ⟨_, _, _, _, _, _, rfl⟩, by decide, by decide⟩ (by rfl) T.srt T.len (pv 1) TB hT hT1 rfl (hr.mono (by decide)))))), ?_⟩
    refine ⟨by show 0 ≤ sizeLine; decide, fun t0 ht0 => ⟨by show 1 ≤ sizeLine; decide, fun p0 hp0 => ?_⟩⟩
    have sA : Same H (upd H t0 (.tup [])) := same_up ht0
    have fA : upd H t0 (.tup []) t0 = some (.tup []) := upd_same
    generalize upd H t0 (.tup []) = G0 at sA fA hp0 ⊢
    have sB : Same G0 (upd G0 p0 (.lst [.ref t0])) := same_up hp0
    have hp : upd G0 p0 (.lst [.ref t0]) p0 = some (.lst [.ref t0]) := upd_same
    have f0 := sB _ _ fA
    have s0 := sA.trans sB
    generalize upd G0 p0 (.lst [.ref t0]) = G1 at s0 hp f0 ⊢
    refine hwi _ _ _ rfl s0 ?_
    refine for_it hw (fun i σ G => ∃ d L x2, σ = [some (.ref a), some (.ref d), x2, none] ∧ Same H G ∧ Lots G d L ∧ L.map (·.2) = subs (u.take i))
      ⟨p0, [(t0, [])], _, rfl, s0, ⟨hp, fun q hq => by
        rw [List.mem_singleton] at hq
        rw [hq]
        exact f0⟩, rfl⟩ (fun i σ G _ h => by
        obtain ⟨_, _, _, _, h, _⟩ := h
        exact h) ?_ ?_
    · rintro i y σ G G' hi ⟨d, L, x2, rfl, s1, hL, eL⟩ ⟨rfl, hy⟩
      obtain ⟨x, hx, rfl⟩ := zV_get hy
      have lL : L.length ≤ 32 := by
        have e := congrArg List.length eL
        rw [List.length_map, subs_len, List.length_take] at e
        rw [e]
        exact pow5 (by omega)
      have i5 : i < u.length := (List.getElem?_eq_some_iff.mp hx).1
      have lq : ∀ q ∈ L, q.2.length ≤ 5 := fun q hq => by
        have m : q.2 ∈ subs (u.take i) := eL ▸ List.mem_map.mpr ⟨q, hq, rfl⟩
        have := (mem_subs.mp m).length_le
        rw [List.length_take] at this
        omega
      refine ⟨_, rfl, _, rfl, d, rfl, ⟨_, SqL.of hL.1⟩, fun D hD => ?_⟩
      refine walk_core (walk_list (K := K) (a := d) (xs := refs L)) (fun j F => ∃ M : List AT, Same G' F ∧ Lots F D M ∧ M.map (·.2) = ((L.take j).map (·.2)).map (· ++ [x])) ⟨[], same_up hD, ⟨upd_same, fun q hq => by cases hq⟩, by rw [List.take_zero]; rfl⟩ (fun _ _ _ h => by
        obtain ⟨_, h, _⟩ := h
        exact SqL.of (h _ _ hL.1)) ?_ ?_
      · rintro j y F F' hj ⟨M, s2, hM, eM⟩ ⟨rfl, hy⟩
        obtain ⟨r, hr', rfl⟩ := refs_get hy
        have rL := List.mem_of_getElem? hr'
        have h5 := lq r rL
        refine ⟨rfl, _, rfl, _, rfl, by show 1 ≤ sizeLine; decide, fun t1 ht1 => ?_⟩
        have s3 := same_up (o := .tup [.int x]) ht1
        have f3 : upd F' t1 (.tup [.int x]) t1 = some (.tup [.int x]) := upd_same
        refine cat_any (s3 _ _ (s2 _ _ (hL.2 r rL))) f3 (by rw [List.length_map]; show r.2.length + 1 ≤ 1000; omega) fun p F2 s4 hp2 => ?_
        have s34 := s3.trans s4
        refine ⟨_, s34 _ _ hM.1, ?_, M ++ [(p, r.2 ++ [x])], sup hD (s2.trans s34), ⟨?_, fun q hq => ?_⟩, ?_⟩
        · have e := congrArg List.length eM
          rw [List.length_map, List.length_map, List.length_map, List.length_take] at e
          exact small1000 (by rw [refs_len]; omega)
        · rw [upd_same, refs_app]
          rfl
        · have nD : ∀ b o, F2 b = some o → (∀ ys, o ≠ .lst ys) → b ≠ D := fun b o e n z => by
            rw [z, s34 _ _ hM.1] at e
            exact n _ (Option.some.inj e).symm
          rcases List.mem_append.mp hq with h | h
          · have e := s34 _ _ (hM.2 q h)
            rw [upd_ne (nD _ _ e fun _ z => by cases z)]
            exact e
          · rw [List.mem_singleton] at h
            subst h
            rw [upd_ne (nD _ _ hp2 fun _ z => by cases z), List.map_append]
            exact hp2
        · rw [List.map_append, eM, take_next1 hr', List.map_append, List.map_append]
          rfl
      · rintro F ⟨M, s2, hM, eM⟩
        rw [refs_len, List.take_length] at eM
        have lM : M.length = L.length := by
          have e := congrArg List.length eM
          simpa using e
        have hL2 := hL.same s2
        refine ⟨d, D, _, _, rfl, rfl, hL2.1, hM.1, Nat.le_of_lt (small1000 (by rw [refs_len, refs_len]; omega)), fun p2 hp2 => ?_⟩
        have s5 := same_up (o := .lst (refs L ++ refs M)) hp2
        refine ⟨p2, L ++ M, _, rfl, (s1.trans s2).trans s5, ⟨by rw [upd_same, refs_app], fun q hq => ?_⟩, ?_⟩
        · rcases List.mem_append.mp hq with h | h
          · exact s5 _ _ (hL2.2 q h)
          · exact s5 _ _ (hM.2 q h)
        · rw [List.map_append, eM, take_next1 hx, subs_snoc, eL]
          rfl
    · rintro σ G ⟨d, L, x2, rfl, s1, hL, eL⟩
      rw [List.take_length] at eL
      have lL : L.length ≤ 32 := by
        have e := congrArg List.length eL
        rw [List.length_map, subs_len] at e
        rw [e]
        exact pow5 hl
      refine ⟨_, rfl, hTb.ext s1, d, L, rfl, hL.1, hL.2, by omega, fun q hq => ?_, fun H2 p2 eN T2 hp2 => ?_⟩
      · have m : q.2 ∈ subs u := eL ▸ List.mem_map.mpr ⟨q, hq, rfl⟩
        have := (mem_subs.mp m).length_le
        omega
      · have s5 := same_up (o := .lst (refs (L.mergeSort leK))) hp2
        refine q p2 (L.mergeSort leK) _ (((LamX.ExtN.of s1).trans eN).trans (LamX.ExtN.of s5)) (T2.ext s5) ⟨upd_same, fun r hr2 => ?_⟩ (sort_parts eL)
        exact s5 _ _ (eN _ _ (hL.2 r ((List.mergeSort_perm L leK).mem_iff.mp hr2)) fun _ z => by cases z)
abbrev N_lparts : List Str := ["_law_lot_here", "_law_found", "_law_copy", "_law_part"]
theorem sc_lparts : FnScope N_lparts ["_law_lot_here"] (defScope sParts) := ⟨rfl, rfl, rfl, by decide +kernel, rfl, by decide +kernel, by decide +kernel⟩
theorem ok_lparts {f : Addr} {fd : FuncData} (F : FunC K "_law_parts" "_law_parts" sParts f c fd) (T : Cst mg) (TB : LamX.TabB base mg c Pt) (hT : (Pt, lamP) ∈ Tb) (hT1 : ∀ p ∈ Tb, p.1 = Pt → p.2 = lamP) : FnOk P w K mg base CX0 3 f fd ["_law_lot_here"] (spPartsT Tb) := by
  refine okC1 F sc_lparts (fun vs H Q E h => ?_) (fun A outer s0 H vs Q E hr h => ?_)
  · obtain ⟨a, u, rfl, _⟩ := h
    rfl
  · obtain ⟨a, u, rfl, ha, hl, hTb, q⟩ := h
    refine ⟨_, pss_cons (ps_set (i := 1) sc_lparts.nd rfl (Or.inl rfl) (pe_lst (pa_cons (pe_tup pa_nil) pa_nil)))
      (pss_cons (ps_for PassesOwn.never rfl (pi_tup (pv 0)) (pg_name (i := 2) sc_lparts.nd rfl (Or.inr rfl))
        (pss_one (ps_set (i := 1) sc_lparts.nd rfl (Or.inl rfl) (pe_op op_cat (pv 1) (pe_lc (own := [("_law_part", 3)]) (g := gName 3) (tt := tYes) rfl sc_lparts.nd (pi_list (pv 1)) (blkOk_by (own := [("_law_part", 3)]) (N := N_lparts) (sc := defScope sParts) (by decide +kernel))
          (fun _ _ _ _ _ => pg_name (i := 3) sc_lparts.nd rfl (Or.inl rfl)) (fun _ _ _ _ _ => pts_nil) (fun _ _ _ _ _ => pe_op (show OpR _ (binaryOp .Add) (rCatA K) from op_catA) (pv 3) (pe_tup (pa_cons (pv 2) pa_nil))))))))
      (pss_one (ps_ret (pe_sortLot (x := "_law_part") (c := c) (P := Pt) ⟨rfl, rfl, rfl, rfl, fun _ _ _ _ _ _ => rfl, ⟨_, _, _, _, _, _, rfl⟩, by decide, by decide⟩ (by rfl) T.srt T.len (pv 1) TB hT hT1 rfl (hr.mono (by decide)))))), ?_⟩
    refine ⟨by show 0 ≤ sizeLine; decide, fun t0 ht0 => ⟨by show 1 ≤ sizeLine; decide, fun p0 hp0 => ?_⟩⟩
    have sA : Same H (upd H t0 (.tup [])) := same_up ht0
    have fA : upd H t0 (.tup []) t0 = some (.tup []) := upd_same
    generalize upd H t0 (.tup []) = G0 at sA fA hp0 ⊢
    have sB : Same G0 (upd G0 p0 (.lst [.ref t0])) := same_up hp0
    have hp : upd G0 p0 (.lst [.ref t0]) p0 = some (.lst [.ref t0]) := upd_same
    have f0 := sB _ _ fA
    have s0 := sA.trans sB
    generalize upd G0 p0 (.lst [.ref t0]) = G1 at s0 hp f0 ⊢
    refine ⟨_, rfl, a, rfl, ⟨_, SqT.of (s0 _ _ ha)⟩, ?_⟩
    refine for_it (walk_tup (K := K) (a := a) (xs := u.map V.int)) (fun i σ G => ∃ d L x2, σ = [some (.ref a), some (.ref d), x2, none] ∧ Same H G ∧ Lots G d L ∧ L.map (·.2) = subs (u.take i))
      ⟨p0, [(t0, [])], _, rfl, s0, ⟨hp, fun q hq => by
        rw [List.mem_singleton] at hq
        rw [hq]
        exact f0⟩, rfl⟩ (fun i σ G _ h => by
        obtain ⟨_, _, _, _, h, _⟩ := h
        exact SqT.of (h _ _ ha)) ?_ ?_
    · rintro i y σ G G' hi ⟨d, L, x2, rfl, s1, hL, eL⟩ ⟨rfl, hy⟩
      obtain ⟨x, hx, rfl⟩ := zV_get hy
      have lL : L.length ≤ 32 := by
        have e := congrArg List.length eL
        rw [List.length_map, subs_len, List.length_take] at e
        rw [e]
        exact pow5 (by omega)
      have i5 : i < u.length := (List.getElem?_eq_some_iff.mp hx).1
      have lq : ∀ q ∈ L, q.2.length ≤ 5 := fun q hq => by
        have m : q.2 ∈ subs (u.take i) := eL ▸ List.mem_map.mpr ⟨q, hq, rfl⟩
        have := (mem_subs.mp m).length_le
        rw [List.length_take] at this
        omega
      refine ⟨_, rfl, _, rfl, d, rfl, ⟨_, SqL.of hL.1⟩, fun D hD => ?_⟩
      refine walk_core (walk_list (K := K) (a := d) (xs := refs L)) (fun j F => ∃ M : List AT, Same G' F ∧ Lots F D M ∧ M.map (·.2) = ((L.take j).map (·.2)).map (· ++ [x])) ⟨[], same_up hD, ⟨upd_same, fun q hq => by cases hq⟩, by rw [List.take_zero]; rfl⟩ (fun _ _ _ h => by
        obtain ⟨_, h, _⟩ := h
        exact SqL.of (h _ _ hL.1)) ?_ ?_
      · rintro j y F F' hj ⟨M, s2, hM, eM⟩ ⟨rfl, hy⟩
        obtain ⟨r, hr', rfl⟩ := refs_get hy
        have rL := List.mem_of_getElem? hr'
        have h5 := lq r rL
        refine ⟨rfl, _, rfl, _, rfl, by show 1 ≤ sizeLine; decide, fun t1 ht1 => ?_⟩
        have s3 := same_up (o := .tup [.int x]) ht1
        have f3 : upd F' t1 (.tup [.int x]) t1 = some (.tup [.int x]) := upd_same
        refine cat_any (s3 _ _ (s2 _ _ (hL.2 r rL))) f3 (by rw [List.length_map]; show r.2.length + 1 ≤ 1000; omega) fun p F2 s4 hp2 => ?_
        have s34 := s3.trans s4
        refine ⟨_, s34 _ _ hM.1, ?_, M ++ [(p, r.2 ++ [x])], sup hD (s2.trans s34), ⟨?_, fun q hq => ?_⟩, ?_⟩
        · have e := congrArg List.length eM
          rw [List.length_map, List.length_map, List.length_map, List.length_take] at e
          exact small1000 (by rw [refs_len]; omega)
        · rw [upd_same, refs_app]
          rfl
        · have nD : ∀ b o, F2 b = some o → (∀ ys, o ≠ .lst ys) → b ≠ D := fun b o e n z => by
            rw [z, s34 _ _ hM.1] at e
            exact n _ (Option.some.inj e).symm
          rcases List.mem_append.mp hq with h | h
          · have e := s34 _ _ (hM.2 q h)
            rw [upd_ne (nD _ _ e fun _ z => by cases z)]
            exact e
          · rw [List.mem_singleton] at h
            subst h
            rw [upd_ne (nD _ _ hp2 fun _ z => by cases z), List.map_append]
            exact hp2
        · rw [List.map_append, eM, take_next1 hr', List.map_append, List.map_append]
          rfl
      · rintro F ⟨M, s2, hM, eM⟩
        rw [refs_len, List.take_length] at eM
        have lM : M.length = L.length := by
          have e := congrArg List.length eM
          simpa using e
        have hL2 := hL.same s2
        refine ⟨d, D, _, _, rfl, rfl, hL2.1, hM.1, Nat.le_of_lt (small1000 (by rw [refs_len, refs_len]; omega)), fun p2 hp2 => ?_⟩
        have s5 := same_up (o := .lst (refs L ++ refs M)) hp2
        refine ⟨p2, L ++ M, _, rfl, (s1.trans s2).trans s5, ⟨by rw [upd_same, refs_app], fun q hq => ?_⟩, ?_⟩
        · rcases List.mem_append.mp hq with h | h
          · exact s5 _ _ (hL2.2 q h)
          · exact s5 _ _ (hM.2 q h)
        · rw [List.map_append, eM, take_next1 hx, subs_snoc, eL]
          rfl
    · rintro σ G ⟨d, L, x2, rfl, s1, hL, eL⟩
      rw [show (u.map V.int).length = u.length from List.length_map _, List.take_length] at eL
      have lL : L.length ≤ 32 := by
        have e := congrArg List.length eL
        rw [List.length_map, subs_len] at e
        rw [e]
        exact pow5 hl
      refine ⟨_, rfl, hTb.ext s1, d, L, rfl, hL.1, hL.2, by omega, fun q hq => ?_, fun H2 p2 eN T2 hp2 => ?_⟩
      · have m : q.2 ∈ subs u := eL ▸ List.mem_map.mpr ⟨q, hq, rfl⟩
        have := (mem_subs.mp m).length_le
        omega
      · have s5 := same_up (o := .lst (refs (L.mergeSort leK))) hp2
        refine q p2 (L.mergeSort leK) _ (((LamX.ExtN.of s1).trans eN).trans (LamX.ExtN.of s5)) (T2.ext s5) ⟨upd_same, fun r hr2 => ?_⟩ (sort_parts eL)
        exact s5 _ _ (eN _ _ (hL.2 r ((List.mergeSort_perm L leK).mem_iff.mp hr2)) fun _ z => by cases z)
end
end Pl

namespace Pl
open L2 PySem PySem.Spec PyProof.Rows RZ
/-- a list or a tuple of lots -/
def LotsB (H : Hp) (a : Addr) (L : List AT) : Prop := (H a = some (.lst (refs L)) ∨ H a = some (.tup (refs L))) ∧ ∀ q ∈ L, H q.1 = some (.tup (q.2.map V.int))
theorem LotsB.same {H G : Hp} {p : Addr} {L : List AT} (h : LotsB H p L) (s : Same H G) : LotsB G p L := ⟨h.1.imp (s _ _) (s _ _), fun q hq => s _ _ (h.2 q hq)⟩
theorem Lots.b {H : Hp} {p : Addr} {L : List AT} (h : Lots H p L) : LotsB H p L := ⟨.inl h.1, h.2⟩
theorem LotsB.ext {H G : Hp} {p : Addr} {L : List AT} (h : LotsB H p L) (s : LamX.ExtN H G) : LotsB G p L := ⟨h.1.imp (fun e => s _ _ e fun _ z => by cases z) (fun e => s _ _ e fun _ z => by cases z), fun q hq => s _ _ (h.2 q hq) fun _ z => by cases z⟩
theorem intEq (x y : Int) : (decide (V.int x = V.int y)) = decide (x = y) := by
  by_cases h : x = y
  · subst h; simp
  · rw [decide_eq_false h, decide_eq_false fun z => h (by injection z)]
/-! ### equal data -/
theorem eqv_ints : ∀ a b : Z, PyData.eqvAll (a.map .int) (b.map .int) = decide (a = b)
  | [], [] => by simp [PyData.eqvAll]
  | [], _ :: _ => by simp [PyData.eqvAll]
  | _ :: _, [] => by simp [PyData.eqvAll]
  | x :: a, y :: b => by
    rw [List.map_cons, List.map_cons]; skip
    unfold PyData.eqvAll
    rw [eqv_ints a b]
    show ((x == y) && decide (a = b)) = _
    by_cases h1 : x = y <;> by_cases h2 : a = b <;> simp [h1, h2]
def datZ (l : Z) : PyData := .tuple (l.map .int)
def datZs (ls : List Z) : PyData := .list (ls.map datZ)
theorem eqv_Z (a b : Z) : PyData.eqv (datZ a) (datZ b) = decide (a = b) := eqv_ints a b
theorem eqv_Zs : ∀ as bs : List Z, PyData.eqvAll (as.map datZ) (bs.map datZ) = decide (as = bs)
  | [], [] => by simp [PyData.eqvAll]
  | [], _ :: _ => by simp [PyData.eqvAll]
  | _ :: _, [] => by simp [PyData.eqvAll]
  | x :: a, y :: b => by
    rw [List.map_cons, List.map_cons]; skip
    unfold PyData.eqvAll
    rw [eqv_Zs a b, eqv_Z]
    by_cases h1 : x = y <;> by_cases h2 : a = b <;> simp [h1, h2]
theorem lay_ints : ∀ a : Z, PyData.canLayAll0 (a.map .int) = true
  | [] => by simp [PyData.canLayAll0]
  | x :: a => by simp [PyData.canLayAll0, PyData.canLay0, lay_ints a]
theorem shaped_Z (a : Z) : SeqAt.shaped (datZ a) = true := by
  unfold SeqAt.shaped datZ
  rw [PyData.canLay0, lay_ints, PyData.depth, dep_ints]
  decide
theorem lay_Zs : ∀ as : List Z, PyData.canLayAll0 (as.map datZ) = true
  | [] => by simp [PyData.canLayAll0]
  | x :: as => by
    rw [List.map_cons]
    unfold PyData.canLayAll0
    rw [lay_Zs as, show PyData.canLay0 (datZ x) = true from by unfold datZ; rw [PyData.canLay0]; exact lay_ints x]
    rfl
theorem dep_Zs : ∀ as : List Z, PyData.depthAll (as.map datZ) ≤ 1
  | [] => by simp [PyData.depthAll]
  | x :: as => by
    have h := dep_Zs as
    have h2 : (datZ x).depth ≤ 1 := by
      unfold datZ
      rw [PyData.depth, dep_ints]
      omega
    rw [List.map_cons]
    unfold PyData.depthAll
    omega
theorem shaped_Zs (as : List Z) : SeqAt.shaped (datZs as) = true := by
  unfold SeqAt.shaped datZs
  rw [PyData.canLay0, lay_Zs, PyData.depth, Bool.true_and]
  have := dep_Zs as
  exact decide_eq_true (by omega); skip
theorem dp_Z {K : PySem.W.Frag} {H : Hp} {a : Addr} {l : Z} (h : H a = some (.tup (l.map V.int))) : Dp K H (.ref a) (datZ l) := by
  refine .tup (SqT.of h) ?_
  clear h
  induction l with
  | nil => exact .nil
  | cons x l ih => exact .cons (.int x) ih
theorem dp_Zs {K : PySem.W.Frag} {H : Hp} {p : Addr} {L : List AT} (h : Lots H p L) : Dp K H (.ref p) (datZs (L.map (·.2))) := by
  refine .lst (SqL.of h.1) ?_
  have g := h.2
  clear h
  induction L with
  | nil => exact .nil
  | cons q L ih => exact .cons (dp_Z (g q List.mem_cons_self)) (ih fun r hr => g r (List.mem_cons_of_mem _ hr))
def spSize : Sp := fun vs H Q _ => ∃ (a : Addr) (L : List AT) (n : Int), vs = [.ref a, .int n] ∧ Lots H a L ∧ L.length ≤ 64 ∧ (∀ q ∈ L, q.2.length ≤ 64) ∧ ∀ p G, Same H G → Lots G p (L.filter fun q => decide ((q.2.length : Int) = n)) → Q (.ref p) G
def spShared : Sp := fun vs H Q _ => ∃ (a b : Addr) (W R : List AT), vs = [.ref a, .ref b] ∧ LotsB H a W ∧ LotsB H b R ∧ W.length ≤ 10 ∧ R.length ≤ 10 ∧ (∀ q ∈ W, Lot 5 q.2) ∧ (∀ q ∈ R, Lot 5 q.2) ∧
  ∀ p L G, Same H G → Lots G p L → L.length ≤ 100 → (∀ q ∈ L, q.2.length ≤ 5) → (∀ l, l ∈ L.map (·.2) ↔ ∃ w ∈ W.map (·.2), ∃ r ∈ R.map (·.2), l = cap w r) → Q (.ref p) G
def spHad : Sp := fun vs H Q _ => ∃ (a b : Addr) (L : List AT) (u : Z), vs = [.ref a, .ref b] ∧ Lots H a L ∧ L.length ≤ 100 ∧ (∀ q ∈ L, q.2.length ≤ 5) ∧ H b = some (.tup (u.map V.int)) ∧ ∀ G, Same H G → Q (.bl (had (L.map (·.2)) u)) G
def rLenQ (K : PySem.W.Frag) : List V → Hp → VK → Prop := fun xs H Q => ∃ p ys, xs = [V.ref p] ∧ (SqL K H p ys ∨ SqT K H p ys) ∧ Q (V.int (ys.length : Nat)) H
/-- the scope of the comprehension that is told through two calls -/
def lcSc (b : List Stmt) : Scope := match b with
  | [.Return (some (.Call _ [.Call _ [.ListComp _ _ sc _] _ _] _ _)) _] => sc
  | _ => { kind := .function, names := [], isGenerator := false, isCoroutine := false }
section
variable {P : Program} {K : PySem.W.Frag} {w : World} {base : Heap} {mg : Str → Option Value} {C : Addr}
theorem scSize : FnScope ["lots", "size", "lot"] ["lots", "size"] (defScope sOfSize) := ⟨rfl, rfl, rfl, by decide +kernel, rfl, by decide +kernel, by decide +kernel⟩
theorem ok_size {f : Addr} {fd : FuncData} (F : Fun K "_of_size" "_of_size" sOfSize f fd) (T : Cst mg) : FnOk P w K mg base CX0 1 f fd ["lots", "size"] spSize := by
  refine F.ok scSize (fun vs H Q E h => ?_) (fun cdv A outer s H vs Q E hr h => ?_)
  · obtain ⟨a, L, n, rfl, _⟩ := h
    rfl
  · obtain ⟨a, L, n, rfl, hL, lL, l6, q⟩ := h
    refine ⟨_, pss_one (ps_ret (pe_lc (own := [("lot", 2)]) (g := gName 2) (tt := _) rfl scSize.nd (pi_list (pv 0)) (blkOk_by (own := [("lot", 2)]) (N := ["lots", "size", "lot"]) (sc := defScope sOfSize) (by decide +kernel))
      (fun _ _ _ _ _ => pg_name (i := 2) scSize.nd rfl (Or.inl rfl)) (fun _ _ _ _ _ => pts_one (pt_cmpR op_eq (pe_callB (show CallR _ (.builtin "len") (rLenQ K) from call_len_seq) (by rfl) T.len PySem.boot_len (pa_cons (pv 2) pa_nil)) (pv 1) (nomark _))) (fun _ _ _ _ _ => pv 2))), ?_⟩
    refine ⟨_, rfl, a, rfl, ⟨_, SqL.of hL.1⟩, fun D hD => ?_⟩
    refine walk_core (walk_list (K := K) (a := a) (xs := refs L)) (fun i G => Same H G ∧ G D = some (.lst (refs ((L.take i).filter fun q => decide ((q.2.length : Int) = n))))) ⟨same_up hD, upd_same⟩ (fun _ _ _ g => SqL.of (g.1 _ _ hL.1)) ?_ ?_
    · rintro i y G G' hi ⟨s1, h1⟩ ⟨rfl, hy⟩
      obtain ⟨r, hr', rfl⟩ := refs_get hy
      have rL := List.mem_of_getElem? hr'
      refine ⟨rfl, _, rfl, r.1, _, rfl, .inr (SqT.of (s1 _ _ (hL.2 r rL))), _, rfl, rfl, _, rfl, ?_⟩
      have fs := filt_snoc hr' (fun q : AT => decide ((q.2.length : Int) = n))
      rw [intEq, List.length_map]
      refine ite2 (fun e => ?_) fun e => ?_
      · rw [if_pos e] at fs
        refine ⟨_, rfl, _, h1, small1000 (by rw [refs_len]; exact Nat.le_trans (filt_len L i _) (by omega)), sup hD s1, ?_⟩
        rw [upd_same, fs, refs_app]
        rfl
      · rw [if_neg e, List.append_nil] at fs
        exact ⟨s1, by rw [fs]; exact h1⟩
    · rintro G ⟨s1, h1⟩
      rw [refs_len, List.take_length] at h1
      exact q D _ s1 ⟨h1, fun r hr => s1 _ _ (hL.2 r (List.mem_filter.mp hr).1)⟩
abbrev nSh : List Str := ["writes", "reads", "write", "read"]
theorem scShared : FnScope nSh ["writes", "reads"] (defScope sShared) := ⟨rfl, rfl, rfl, by decide +kernel, rfl, by decide +kernel, by decide +kernel⟩
theorem ok_shared {f : Addr} {fd : FuncData} (F : Fun K "_shared_lots" "_shared_lots" sShared f fd) (T : Cst mg) (D1 : Df P w K mg base 1 "in_common" ["one", "other"] spCommon) : FnOk P w K mg base CX0 2 f fd ["writes", "reads"] spShared := by
  obtain ⟨e1, fd1, G1, m1, k1, b1⟩ := D1.ex
  refine F.ok scShared (fun vs H Q E h => ?_) (fun cdv A outer s0 H vs Q E hr h => ?_)
  · obtain ⟨a, b, W, R, rfl, _⟩ := h
    rfl
  · obtain ⟨a, b, W, R, rfl, hW, hR, lW, lR, fW, fR, q⟩ := h
    have hu : (A.deeper (envOfC "_shared_lots" (defScope sShared) s0.heap.objs.size f cdv)).units + 64 < cLine := hr.units
    have it : ∃ (wi : TI) (J : It), PI (cxOf CX0 P w K mg base nSh "_shared_lots" (defScope sShared) f cdv A outer s0 H E).nox (match defBody sShared with
        | [.Return (some (.Call _ [.Call _ [.ListComp _ [⟨tg, _, _, _⟩, _] _ _] _ _] _ _)) _] => tg
        | _ => .Constant .none 0 ⟨0, 0, 0, 0⟩) (match defBody sShared with
        | [.Return (some (.Call _ [.Call _ [.ListComp _ [⟨_, it, _, _⟩, _] _ _] _ _] _ _)) _] => it
        | _ => .Constant .none 0 ⟨0, 0, 0, 0⟩) wi ∧ (∀ (σ : L2.St) (G : Hp) S, σ[0]? = some (some (.ref a)) → Same H G → S J G → wi σ G S) ∧ L2.Walk J W.length (fun G => Same H G) (YAt (refs W)) := by
      rcases hW.1 with ha | ha
      · refine ⟨_, Itl K a, pi_list (pv 0), fun σ G R hσ sG r => ⟨_, hσ, a, rfl, ⟨_, SqL.of (sG _ _ ha)⟩, r⟩, ?_⟩
        have := walk_list (K := K) (a := a) (xs := refs W)
        rw [refs_len] at this
        exact this.mono (fun G sG => SqL.of (sG _ _ ha)) fun _ _ _ _ _ _ y => y
      · refine ⟨_, Itt K a, pi_tup (pv 0), fun σ G R hσ sG r => ⟨_, hσ, a, rfl, ⟨_, SqT.of (sG _ _ ha)⟩, r⟩, ?_⟩
        have := walk_tup (K := K) (a := a) (xs := refs W)
        rw [refs_len] at this
        exact this.mono (fun G sG => SqT.of (sG _ _ ha)) fun _ _ _ _ _ _ y => y
    obtain ⟨wi, J, hit, hwi, hw⟩ := it
    have it2 : ∃ (wi : TI) (J : It), (∀ (s : Shared) (H' : Hp) (C : Addr) (cl : List (Str × Addr)) (fp : List Addr), PI ((cxOf CX0 P w K mg base nSh "_shared_lots" (defScope sShared) f cdv A outer s0 H E).nox.blk s H' (lcSc (defBody sShared)) (compEnvC (lcSc (defBody sShared)) cl C (cxOf CX0 P w K mg base nSh "_shared_lots" (defScope sShared) f cdv A outer s0 H E).nox.env) fp) (match defBody sShared with
        | [.Return (some (.Call _ [.Call _ [.ListComp _ [_, ⟨tg, _, _, _⟩] _ _] _ _] _ _)) _] => tg
        | _ => .Constant .none 0 ⟨0, 0, 0, 0⟩) (match defBody sShared with
        | [.Return (some (.Call _ [.Call _ [.ListComp _ [_, ⟨_, it, _, _⟩] _ _] _ _] _ _)) _] => it
        | _ => .Constant .none 0 ⟨0, 0, 0, 0⟩) wi) ∧ (∀ (σ : L2.St) (G : Hp) S, σ[1]? = some (some (.ref b)) → Same H G → S J G → wi σ G S) ∧ L2.Walk J R.length (fun G => Same H G) (YAt (refs R)) := by
      rcases hR.1 with hb | hb
      · refine ⟨iList K (tVar 1), Itl K b, fun _ _ _ _ _ => pi_list (pv 1), fun σ G R hσ sG r => ⟨_, hσ, b, rfl, ⟨_, SqL.of (sG _ _ hb)⟩, r⟩, ?_⟩
        have := walk_list (K := K) (a := b) (xs := refs R)
        rw [refs_len] at this
        exact this.mono (fun G sG => SqL.of (sG _ _ hb)) fun _ _ _ _ _ _ y => y
      · refine ⟨iTup K (tVar 1), Itt K b, fun _ _ _ _ _ => pi_tup (pv 1), fun σ G R hσ sG r => ⟨_, hσ, b, rfl, ⟨_, SqT.of (sG _ _ hb)⟩, r⟩, ?_⟩
        have := walk_tup (K := K) (a := b) (xs := refs R)
        rw [refs_len] at this
        exact this.mono (fun G sG => SqT.of (sG _ _ hb)) fun _ _ _ _ _ _ y => y
    obtain ⟨wi2, J2, hit2, hwi2, hw2⟩ := it2
    refine ⟨_, pss_one (ps_ret (pe_callB (cr_sortM rfl hu) (by rfl) T.srt (by decide +kernel) (pa_cons (pe_callTy (cr_setM rfl hu) (by rfl) T.tset (by decide +kernel) (pa_cons
      (pe_lc2 (own := [("write", 2), ("read", 3)]) (g := gName 2) (g1 := gName 3) (tt := tYes) (tt1 := tYes) (vs1 := [3]) rfl scShared.nd hit (blkOk_by (own := [("write", 2), ("read", 3)]) (N := nSh) (sc := defScope sShared) (by decide +kernel)) (by decide)
        (fun _ _ _ _ _ => pg_name (i := 2) scShared.nd rfl (Or.inl rfl)) (fun _ _ _ _ _ => pts_nil) hit2 (fun _ _ _ _ _ => pg_name (i := 3) scShared.nd rfl (Or.inl rfl)) (fun _ _ _ _ _ => pts_nil)
        (fun _ _ _ _ _ => pe_call G1 (hr.mono (by decide)) (by rfl) m1 k1 b1 .nil pass0 (pa_cons (pv 2) (pa_cons (pv 3) pa_nil)))) pa_nil)) pa_nil))), ?_⟩
    refine hwi _ _ _ rfl (fun _ _ e => e) fun D hD => ?_
    refine walk_core hw (fun i G => Same H G ∧ ∃ M : List AT, Lots G D M ∧ M.length ≤ i * 10 ∧ M.map (·.2) = ((W.take i).map (·.2)).flatMap fun w => (R.map (·.2)).map (cap w)) ⟨same_up hD, [], ⟨upd_same, fun q hq => by cases hq⟩, Nat.zero_le _, by rw [List.take_zero]; rfl⟩ (fun i G _ h => h.1) ?_ ?_
    · rintro i x G G' hi ⟨s1, M, hM, lM, eM⟩ ⟨rfl, hx⟩
      obtain ⟨wq, hwq, rfl⟩ := refs_get hx
      have wW := List.mem_of_getElem? hwq
      refine ⟨rfl, hwi2 _ _ _ rfl s1 ?_⟩
      refine walk_core hw2 (fun j F => Same H F ∧ ∃ M2 : List AT, Lots F D M2 ∧ M2.map (·.2) = M.map (·.2) ++ ((R.take j).map (·.2)).map (cap wq.2)) ⟨s1, M, hM, by rw [List.take_zero]; simp⟩ (fun _ _ _ h => h.1) ?_ ?_
      · rintro j y F F' hj ⟨s2, M2, hM2, eM2⟩ ⟨rfl, hy⟩
        obtain ⟨rq, hrq, rfl⟩ := refs_get hy
        have rR := List.mem_of_getElem? hrq
        refine ⟨rfl, _, rfl, _, rfl, wq.1, rq.1, wq.2, rq.2, rfl, s2 _ _ (hW.2 wq wW), s2 _ _ (hR.2 rq rR), by have := (fW wq wW).len; omega, fun t F2 s3 ht hF2 => ?_⟩
        refine ⟨_, s3 _ _ hM2.1, ?_, sup hD (s2.trans s3), M2 ++ [(t, cap wq.2 rq.2)], ⟨?_, fun q hq => ?_⟩, ?_⟩
        · have e := congrArg List.length eM2
          rw [List.length_map, List.length_append, List.length_map, List.length_map, List.length_map, List.length_take] at e
          exact small1000 (by rw [refs_len]; omega)
        · rw [upd_same, refs_app]
          rfl
        · have nD : ∀ b o, F2 b = some o → (∀ ys, o ≠ .lst ys) → b ≠ D := fun b o e n z => by
            rw [z, s3 _ _ hM2.1] at e
            exact n _ (Option.some.inj e).symm
          rcases List.mem_append.mp hq with h | h
          · have e := s3 _ _ (hM2.2 q h)
            rw [upd_ne (nD _ _ e fun _ z => by cases z)]
            exact e
          · rw [List.mem_singleton] at h
            subst h
            rw [upd_ne (nD _ _ hF2 fun _ z => by cases z)]
            exact hF2
        · rw [List.map_append, eM2, take_next1 hrq, List.map_append, List.map_append, List.append_assoc]
          rfl
      · rintro F ⟨s2, M2, hM2, eM2⟩
        rw [List.take_length] at eM2
        refine ⟨s2, M2, hM2, ?_, ?_⟩
        · have e := congrArg List.length eM2
          rw [List.length_map, List.length_append, List.length_map, List.length_map, List.length_map] at e
          rw [Nat.succ_mul]
          omega
        rw [eM2, take_next1 hwq, List.map_append, List.flatMap_append, eM]
        simp
    · rintro G ⟨s1, M, hM, lM, eM⟩
      rw [List.take_length] at eM
      have mM : ∀ l, l ∈ M.map (·.2) ↔ ∃ w ∈ W.map (·.2), ∃ r ∈ R.map (·.2), l = cap w r := fun l => by
        rw [eM, List.mem_flatMap]
        constructor
        · rintro ⟨w, hw, hl⟩
          obtain ⟨r, hr, rfl⟩ := List.mem_map.mp hl
          exact ⟨w, hw, r, hr, rfl⟩
        · rintro ⟨w, hw, r, hr, rfl⟩
          exact ⟨w, hw, List.mem_map.mpr ⟨r, hr, rfl⟩⟩
      have fM : ∀ p ∈ M, p.2.Sublist five := fun p hp => by
        obtain ⟨w, hw, r, hr, e⟩ := (mM p.2).mp (List.mem_map.mpr ⟨p, hp, rfl⟩)
        obtain ⟨q, hq, rfl⟩ := List.mem_map.mp hw
        rw [e]
        exact (cap_sub _ _).trans (fW q hq).five
      refine ⟨D, M, subs five, rfl, SqL.of hM.1, fun p hp => SqT.of (hM.2 p hp), fun p hp => mem_subs.mpr (fM p hp), by rw [subs_len]; decide, fun S L hS hs1 hs2 few => ?_⟩
      have s2 := same_up (o := SetTO P w S L) hS
      refine ⟨S, L, rfl, upd_same, fun p hp => SqT.of (s2 _ _ (hM.2 p (hs1 p hp))), fun L' p pm hp => ?_⟩
      have s3 := same_up (o := .lst (refs L')) hp
      refine q p L' _ ((s1.trans s2).trans s3) ⟨upd_same, fun r hr => s3 _ _ (s2 _ _ (hM.2 r (hs1 r (pm.mem_iff.mp hr))))⟩ ?_ (fun r hr => ?_) fun l => ?_
      · rw [pm.length_eq]
        omega
      · exact (fM r (hs1 r (pm.mem_iff.mp hr))).length_le
      · rw [← mM l, (pm.map (·.2)).mem_iff]
        constructor
        · intro h
          obtain ⟨p, hp, rfl⟩ := List.mem_map.mp h; skip
          exact List.mem_map.mpr ⟨p, hs1 p hp, rfl⟩
        · intro h
          obtain ⟨p, hp, rfl⟩ := List.mem_map.mp h; skip
          exact hs2 p hp
end
end Pl

namespace Pl
open L2 PySem PySem.Spec PyProof.Rows RZ
theorem tabs_upd {Tb : TbL} {G : Hp} {l : Addr} {xs ys : List V} (t : LamX.Tabs Tb G) (h : G l = some (.lst xs)) : LamX.Tabs Tb (upd G l (.lst ys)) := by
  intro p hp
  obtain ⟨ps, h1, h2, h3⟩ := t p hp
  have n1 : p.1 ≠ l := fun e => by
    rw [e, h] at h1
    cases h1
  refine ⟨ps, (upd_ne n1).trans h1, h2, fun pos cv hc => ?_⟩
  obtain ⟨c, e1, e2⟩ := h3 pos cv hc; skip
  have n2 : c ≠ l := fun e => by
    rw [e, h] at e2
    cases e2
  exact ⟨c, e1, (upd_ne n2).trans e2⟩
theorem lots_but {G : Hp} {l p : Addr} {L : List AT} {xs ys : List V} (hL : Lots G p L) (h : G l = some (.lst xs)) (n : p ≠ l) : Lots (upd G l (.lst ys)) p L := by
  refine ⟨(upd_ne n).trans hL.1, fun q hq => ?_⟩
  have e := hL.2 q hq
  rw [upd_ne fun z => by rw [z, h] at e; cases e]
  exact e
theorem tup_but {G : Hp} {l b : Addr} {zs xs ys : List V} (e : G b = some (.tup zs)) (h : G l = some (.lst xs)) : upd G l (.lst ys) b = some (.tup zs) := by
  rw [upd_ne fun z => by rw [z, h] at e; cases e]
  exact e
/-- one more at the list's end -/
theorem lots_app {G : Hp} {l : Addr} {L : List AT} {q : AT} (hL : Lots G l L) (hq : G q.1 = some (.tup (q.2.map V.int))) : Lots (upd G l (.lst (refs L ++ [.ref q.1]))) l (L ++ [q]) := by
  refine ⟨by rw [upd_same, refs_app]; rfl, fun r hr => ?_⟩
  rcases List.mem_append.mp hr with h | h
  · exact tup_but (hL.2 r h) hL.1
  · rw [List.mem_singleton] at h
    subst h
    exact tup_but hq hL.1
theorem ext_upd {H G : Hp} {l : Addr} {o : HO} (e : LamX.ExtN H G) (n : ∀ b u, H b = some u → (∀ ps, u ≠ .tbl ps) → b ≠ l) : LamX.ExtN H (upd G l o) := fun b u hb hn => (upd_ne (n b u hb hn)).trans (e b u hb hn)
def rTupOf (K : PySem.W.Frag) : List V → Hp → VK → Prop := fun xs H Q => ∃ p ys, xs = [.ref p] ∧ ((SqL K H p ys ∧ ∀ l, H l = none → Q (.ref l) (upd H l (.tup ys))) ∨ (SqT K H p ys ∧ Q (.ref p) H))
section
variable {P : Program} {K : PySem.W.Frag} {w : World} {base : Heap} {mg : Str → Option Value} {C : Addr}
theorem scHad : FnScope ["shared", "unruly", "lot"] ["shared", "unruly"] (defScope sHad) := ⟨rfl, rfl, rfl, by decide +kernel, rfl, by decide +kernel, by decide +kernel⟩
theorem ok_had {f : Addr} {fd : FuncData} (F : Fun K "_is_had" "_is_had" sHad f fd) (T : Cst mg) (D1 : Df P w K mg base 1 "in_common" ["one", "other"] spCommon) : FnOk P w K mg base CX0 2 f fd ["shared", "unruly"] spHad := by
  obtain ⟨e1, fd1, G1, m1, k1, b1⟩ := D1.ex
  refine F.ok scHad (fun vs H Q E h => ?_) (fun cdv A outer s0 H vs Q E hr h => ?_)
  · obtain ⟨a, b, L, u, rfl, _⟩ := h
    rfl
  · obtain ⟨a, b, L, u, rfl, hL, lL, l5, hb, q⟩ := h
    refine ⟨_, pss_one (ps_ret (pe_callB (cr_all rfl) (by rfl) T.all_ (by decide +kernel) (pa_cons
      (pe_lc (own := [("lot", 2)]) (g := gName 2) (tt := tYes) rfl scHad.nd (pi_list (pv 0)) (blkOk_by (own := [("lot", 2)]) (N := ["shared", "unruly", "lot"]) (sc := defScope sHad) (by decide +kernel))
        (fun _ _ _ _ _ => pg_name (i := 2) scHad.nd rfl (Or.inl rfl)) (fun _ _ _ _ _ => pts_nil)
        (fun _ _ _ _ _ => pe_cmpR op_lt (pe_callB (show CallR _ (.builtin "len") (rLenQ K) from call_len_seq) (by rfl) T.len PySem.boot_len (pa_cons (pe_call G1 (hr.mono (by decide)) (by rfl) m1 k1 b1 .nil pass0 (pa_cons (pv 2) (pa_cons (pv 1) pa_nil))) pa_nil)) (pe_callB (show CallR _ (.builtin "len") (rLenQ K) from call_len_seq) (by rfl) T.len PySem.boot_len (pa_cons (pv 2) pa_nil)) (nomark _))) pa_nil))), ?_⟩
    refine ⟨_, rfl, a, rfl, ⟨_, SqL.of hL.1⟩, fun D hD => ?_⟩
    refine walk_core (walk_list (K := K) (a := a) (xs := refs L)) (fun i G => Same H G ∧ G D = some (.lst (((L.take i).map fun q => decide ((cap q.2 u).length < q.2.length)).map V.bl))) ⟨same_up hD, upd_same⟩ (fun _ _ _ g => SqL.of (g.1 _ _ hL.1)) ?_ ?_
    · rintro i y G G' hi ⟨s1, h1⟩ ⟨rfl, hy⟩
      obtain ⟨r, hr', rfl⟩ := refs_get hy
      have rL := List.mem_of_getElem? hr'
      have h5 := l5 r rL
      refine ⟨rfl, _, rfl, _, rfl, r.1, b, r.2, u, rfl, s1 _ _ (hL.2 r rL), s1 _ _ hb, by omega, fun t F s2 ht hF => ?_⟩
      refine ⟨t, _, rfl, .inr (SqT.of hF), _, rfl, r.1, _, rfl, .inr (SqT.of (s2 _ _ (s1 _ _ (hL.2 r rL)))), _, _, rfl, rfl, ?_⟩
      refine ⟨_, s2 _ _ h1, small1000 (by rw [List.length_map, List.length_map, List.length_take]; omega), sup hD (s1.trans s2), ?_⟩
      have ev : decide ((((cap r.2 u).map V.int).length : Int) < ((r.2.map V.int).length : Nat)) = decide ((cap r.2 u).length < r.2.length) := by
        rw [List.length_map, List.length_map]
        exact decide_eq_decide.mpr (by omega); skip
      rw [upd_same, take_next1 hr', List.map_append, List.map_append, List.map_singleton, List.map_singleton, ← ev]
    · rintro G ⟨s1, h1⟩
      rw [refs_len, List.take_length] at h1
      refine ⟨D, _, rfl, SqL.of h1, ?_⟩
      have ea : ((L.map fun q => decide ((cap q.2 u).length < q.2.length)).all id) = had (L.map (·.2)) u := by
        unfold had
        rw [List.all_map, List.all_map]
        rfl
      rw [ea]
      exact q _ s1
def spLB (Tb : TbL) : Sp := fun vs H Q _ => ∃ (a b c : Addr) (W R : List AT) (u : Z), vs = [.ref a, .ref b, .ref c] ∧ LotsB H a W ∧ LotsB H b R ∧ W.length ≤ 10 ∧ R.length ≤ 10 ∧ (∀ q ∈ W, Lot 5 q.2) ∧ (∀ q ∈ R, Lot 5 q.2) ∧ H c = some (.tup (u.map V.int)) ∧ Lot 5 u ∧ LamX.Tabs Tb H ∧
  ∀ p L G, LamX.ExtN H G → LamX.Tabs Tb G → Lots G p L → L.map (·.2) = leastS (safe (W.map (·.2)) (R.map (·.2))) u → Q (.ref p) G
abbrev nLB : List Str := ["writes", "reads", "unruly", "shared", "least", "bars", "left", "copy", "less"]
variable {Tb : TbL}
theorem scLB : FnScope nLB ["writes", "reads", "unruly"] (defScope sLB) := ⟨rfl, rfl, rfl, by decide +kernel, rfl, by decide +kernel, by decide +kernel⟩
theorem ok_lb {f : Addr} {fd : FuncData} (F : Fun K "_least_bars" "_least_bars" sLB f fd) (T : Cst mg) (D1 : Df P w K mg base 1 "in_common" ["one", "other"] spCommon) (D2 : Df P w K mg base 2 "_shared_lots" ["writes", "reads"] spShared) (D3 : Df P w K mg base 2 "_is_had" ["shared", "unruly"] spHad) (D4 : Df P w K mg base 3 "all_lots" ["copies"] (spParts Tb)) : FnOk P w K mg base CX0 4 f fd ["writes", "reads", "unruly"] (spLB Tb) := by
  obtain ⟨e1, fd1, G1, m1, k1, b1⟩ := D1.ex
  obtain ⟨e2, fd2, G2, m2, k2, b2⟩ := D2.ex
  obtain ⟨e3, fd3, G3, m3, k3, b3⟩ := D3.ex
  obtain ⟨e4, fd4, G4, m4, k4, b4⟩ := D4.ex
  refine F.ok scLB (fun vs H Q E h => ?_) (fun cdv A outer s0 H vs Q E hr h => ?_)
  · obtain ⟨a, b, c, W, R, u, rfl, _⟩ := h
    rfl
  · obtain ⟨a, b, c, W, R, u, rfl, hW, hR, lW, lR, fW, fR, hc, fu, hT, q⟩ := h
    have hu : (A.deeper (envOfC "_least_bars" (defScope sLB) s0.heap.objs.size f cdv)).units + 64 < cLine := hr.units
    refine ⟨_, pss_cons (ps_set (i := 3) scLB.nd rfl (Or.inl rfl) (pe_call G2 (hr.mono (by decide)) (by rfl) m2 k2 b2 .nil pass0 (pa_cons (pv 0) (pa_cons (pv 1) pa_nil))))
      (pss_cons (ps_set (i := 4) scLB.nd rfl (Or.inl rfl) (pe_lst pa_nil))
      (pss_cons (ps_for PassesOwn.never rfl (pi_list (pe_call G4 (hr.mono (by decide)) (by rfl) m4 k4 b4 .nil pass0 (pa_cons (pv 2) pa_nil))) (pg_name (i := 5) scLB.nd rfl (Or.inr rfl))
        (pss_cons (ps_set (i := 6) scLB.nd rfl (Or.inl rfl) (pe_callTy (show CallR _ (.type "tuple") (rTupOf K) from call_tuple_of) (by rfl) T.ttup (by decide +kernel) (pa_cons (pe_lc (own := [("copy", 7)]) (g := gName 7) (tt := _) rfl scLB.nd (pi_tup (pv 2)) (blkOk_by (own := [("copy", 7)]) (N := nLB) (sc := defScope sLB) (by decide +kernel))
          (fun _ _ _ _ _ => pg_name (i := 7) scLB.nd rfl (Or.inl rfl)) (fun _ _ _ _ _ => pts_one (pt_cmpR (show OpR _ (compareOp .NotIn) (rIn K true) from op_notIn_seq) (pv 7) (pv 5) (by rfl))) (fun _ _ _ _ _ => pv 7)) pa_nil)))
        (pss_one (ps_if (PW.pt (pw_and (pt_val (pe_call G3 (hr.mono (by decide)) (by rfl) m3 k3 b3 .nil pass0 (pa_cons (pv 3) (pa_cons (pv 6) pa_nil))))
            (pw_and1 (pt_not (pt_val (pe_callB (cr_any rfl) (by rfl) T.any_ (by decide +kernel) (pa_cons (pe_lc (own := [("less", 8)]) (g := gName 8) (tt := tYes) rfl scLB.nd (pi_list (pv 4)) (blkOk_by (own := [("less", 8)]) (N := nLB) (sc := defScope sLB) (by decide +kernel))
              (fun _ _ _ _ _ => pg_name (i := 8) scLB.nd rfl (Or.inl rfl)) (fun _ _ _ _ _ => pts_nil) (fun _ _ _ _ _ => pe_cmpR (show OpR _ (compareOp .Eq) (rEqD K) from op_eqD hu) (pe_call G1 (hr.mono (by decide)) (by rfl) m1 k1 b1 .nil pass0 (pa_cons (pv 8) (pa_cons (pv 5) pa_nil))) (pv 8) (nomark _))) pa_nil)))))))
          (pss_one (ps_expr (pe_bm PySem.F.plainAttrs_list PySem.F.slot_list_append PySem.F.type_list_append mt_append (pv 4) (pa_cons (pv 5) pa_nil)))) pss_nil))))
      (pss_one (ps_ret (pv 4))))), ?_⟩
    refine ⟨_, rfl, _, rfl, a, b, W, R, rfl, hW, hR, lW, lR, fW, fR, fun ps SL Ga s1 hSL lSL l5 mSL => ?_⟩
    refine ⟨by show 0 ≤ sizeLine; decide, fun pl hpl => ?_⟩
    have s2 := same_up (o := .lst []) hpl
    have fl : upd Ga pl (.lst []) pl = some (.lst []) := upd_same
    have nl : ∀ b o, H b = some o → (∀ ps, o ≠ .tbl ps) → b ≠ pl := fun b o hb _ => ne_of_none (s1 _ _ hb) hpl
    have nps : ps ≠ pl := ne_of_none hSL.1 hpl
    have hSL2 := hSL.same s2
    have s12 := s1.trans s2
    generalize upd Ga pl (.lst []) = Gb at s2 fl hSL2 s12 ⊢
    refine ⟨_, rfl, c, u, rfl, .inl (s12 _ _ hc), fu.len, hT.ext s12, fun pp PL Gc eN Tc hPL ePL => ?_⟩
    have lPL : PL.length = 2 ^ u.length := by
      have e := congrArg List.length ePL
      rw [List.length_map, (parts_perm u).length_eq, subs_len] at e
      exact e
    have p32 := pow5 fu.len
    have lz : pl ≠ pp := fun z => by
      have h1 := eN _ _ fl fun _ z => by cases z
      rw [z, hPL.1] at h1
      have h2 := congrArg List.length (HO.lst.inj (Option.some.inj h1))
      rw [refs_len, lPL] at h2
      have h3 : 0 < 2 ^ u.length := Nat.two_pow_pos _
      have h4 : 2 ^ u.length = 0 := h2
      omega
    have fP : ∀ r ∈ PL, r.2.Sublist u := fun r hr => mem_parts.mp (ePL ▸ List.mem_map.mpr ⟨r, hr, rfl⟩)
    refine ⟨pp, rfl, ⟨_, SqL.of hPL.1⟩, ?_⟩
    generalize hS : safe (W.map (·.2)) (R.map (·.2)) = S at q
    have hadS : ∀ v : Z, had (SL.map (·.2)) v = S v := fun v => by
      rw [← hS]
      exact had_safe mSL
    refine for_it (walk_list (K := K) (a := pp) (xs := refs PL)) (fun i σ G => ∃ x5 x6 acc, σ = [some (.ref a), some (.ref b), some (.ref c), some (.ref ps), some (.ref pl), x5, x6, none, none] ∧ LamX.ExtN H G ∧ LamX.Tabs Tb G ∧ Lots G ps SL ∧ Lots G pp PL ∧ G c = some (.tup (u.map V.int)) ∧ Lots G pl acc ∧ acc.map (·.2) = ((PL.map (·.2)).take i).foldl (stepB S u) [] ∧ acc.length ≤ i ∧ ∀ r ∈ acc, r.2.length ≤ 5)
      ⟨_, _, [], rfl, (LamX.ExtN.of s12).trans eN, Tc, hSL2.ext eN, hPL, eN _ _ (s12 _ _ hc) (fun _ z => by cases z), ⟨eN _ _ fl (fun _ z => by cases z), fun r hr => by cases hr⟩, rfl, Nat.le_refl _, fun r hr => by cases hr⟩ (fun i σ G _ h => by
        obtain ⟨_, _, _, _, _, _, _, h, _⟩ := h
        exact SqL.of h.1) ?_ ?_
    · rintro i y σ G G' hi ⟨x5, x6, acc, rfl, eG, tG, hS1, hP1, hc1, hA, eA, lA, fA⟩ ⟨rfl, hy⟩
      rw [refs_len] at hi
      obtain ⟨r, hr', rfl⟩ := refs_get hy
      have rP := List.mem_of_getElem? hr'
      have r5 : r.2.length ≤ 5 := Nat.le_trans (fP r rP).length_le fu.len
      have eT : ((PL.map (·.2)).take (i + 1)).foldl (stepB S u) [] = stepB S u (((PL.map (·.2)).take i).foldl (stepB S u) []) r.2 := by
        rw [take_next1 (x := r.2) (by rw [List.getElem?_map, hr']; rfl), List.foldl_append]
        rfl
      refine ⟨_, rfl, c, rfl, ⟨_, SqT.of hc1⟩, fun D hD => ?_⟩
      refine walk_core (walk_tup (K := K) (a := c) (xs := u.map V.int)) (fun j F => Same G' F ∧ F D = some (.lst (((u.take j).filter fun x => !has r.2 x).map V.int))) ⟨same_up hD, upd_same⟩ (fun _ _ _ g => SqT.of (g.1 _ _ hc1)) ?_ ?_
      · rintro j y F F' hj ⟨s3, h3⟩ ⟨rfl, hy⟩
        obtain ⟨x, hx, rfl⟩ := zV_get hy
        refine ⟨rfl, _, rfl, _, rfl, r.1, _, rfl, .inr (SqT.of (s3 _ _ (hP1.2 r rP))), rfl, flatZ r.2, _, rfl, ?_⟩
        have ei : (!inV (.int x) (r.2.map V.int)) = !has r.2 x := by rw [inZ]
        have fs := filt_snoc hx (fun x => !has r.2 x)
        refine ite2 (fun e => ?_) fun e => ?_
        · have e : (!has r.2 x) = true := ei ▸ e
          rw [if_pos e] at fs
          refine ⟨_, rfl, _, h3, small1000 (by rw [List.length_map]; exact Nat.le_trans (filt_len u j _) (by have := fu.len; omega)), sup hD s3, ?_⟩
          rw [upd_same, fs, List.map_append]
          rfl
        · have e : ¬ (!has r.2 x) = true := ei ▸ e
          rw [if_neg e, List.append_nil] at fs
          exact ⟨s3, by rw [fs]; exact h3⟩
      · rintro F ⟨s3, h3⟩
        rw [List.length_map, List.take_length] at h3
        refine ⟨D, _, rfl, .inl ⟨SqL.of h3, fun t ht => ?_⟩⟩
        have s4 := s3.trans (same_up (o := .tup ((wo u r.2).map V.int)) ht)
        have ft : upd F t (.tup ((wo u r.2).map V.int)) t = some (.tup ((wo u r.2).map V.int)) := upd_same
        have hwo : (u.filter fun x => !has r.2 x) = wo u r.2 := rfl
        rw [hwo]
        generalize upd F t (.tup ((wo u r.2).map V.int)) = F1 at s4 ft ⊢
        refine ⟨_, rfl, _, rfl, ps, t, SL, wo u r.2, rfl, hS1.same s4, lSL, l5, ft, fun F2 s5 => ⟨_, rfl, ?_⟩⟩
        have s45 := s4.trans s5
        rw [hadS]
        have same_acc : ∀ (F : Hp), Same G' F → cnd S u (acc.map (·.2)) r.2 = false → ∃ x5 x6 acc', [some (.ref a), some (.ref b), some (.ref c), some (.ref ps), some (.ref pl), some (.ref r.1), some (.ref t), none, none] = ([some (.ref a), some (.ref b), some (.ref c), some (.ref ps), some (.ref pl), x5, x6, none, none] : L2.St) ∧ LamX.ExtN H F ∧ LamX.Tabs Tb F ∧ Lots F ps SL ∧ Lots F pp PL ∧ F c = some (.tup (u.map V.int)) ∧ Lots F pl acc' ∧ acc'.map (·.2) = ((PL.map (·.2)).take (i + 1)).foldl (stepB S u) [] ∧ acc'.length ≤ i + 1 ∧ ∀ r ∈ acc', r.2.length ≤ 5 := fun F s hc' => by
          refine ⟨_, _, acc, rfl, eG.trans (LamX.ExtN.of s), tG.ext s, hS1.same s, hP1.same s, s _ _ hc1, hA.same s, ?_, by omega, fA⟩
          rw [eT, ← eA]
          unfold stepB
          rw [hc']
          rfl
        refine ite2 (fun e => ?_) fun e => ?_
        · refine ⟨_, rfl, pl, rfl, ⟨_, SqL.of (s45 _ _ hA.1)⟩, fun D2 hD2 => ?_⟩
          refine walk_core (walk_list (K := K) (a := pl) (xs := refs acc)) (fun j F3 => Same F2 F3 ∧ F3 D2 = some (.lst (((acc.take j).map fun l => within_ l.2 r.2).map V.bl))) ⟨same_up hD2, upd_same⟩ (fun _ _ _ g => SqL.of (g.1 _ _ (s45 _ _ hA.1))) ?_ ?_
          · rintro j y F3 F4 hj ⟨s6, h6⟩ ⟨rfl, hy⟩
            obtain ⟨l, hl', rfl⟩ := refs_get hy
            have lA' := List.mem_of_getElem? hl'
            have l5' := fA l lA'
            refine ⟨rfl, _, rfl, _, rfl, l.1, r.1, l.2, r.2, rfl, s6 _ _ (s45 _ _ (hA.2 l lA')), s6 _ _ (s45 _ _ (hP1.2 r rP)), by omega, fun t2 F5 s7 ht2 hF5 => ?_⟩
            refine ⟨_, rfl, datZ (cap l.2 r.2), datZ l.2, dp_Z hF5, dp_Z (s7 _ _ (s6 _ _ (s45 _ _ (hA.2 l lA')))), shaped_Z _, shaped_Z _, ?_⟩
            refine ⟨_, s7 _ _ h6, small1000 (by rw [List.length_map, List.length_map, List.length_take]; omega), sup hD2 (s6.trans s7), ?_⟩
            have ev : PyData.eqv (datZ (cap l.2 r.2)) (datZ l.2) = within_ l.2 r.2 := by
              rw [eqv_Z, Bool.eq_iff_iff, decide_eq_true_iff]
              exact within_cap
            rw [upd_same, take_next1 hl', List.map_append, List.map_append, List.map_singleton, List.map_singleton, ev]
          · rintro F3 ⟨s6, h6⟩
            rw [refs_len, List.take_length] at h6
            refine ⟨D2, _, rfl, SqL.of h6, ⟨_, rfl, ?_⟩⟩
            have s46 := s45.trans s6
            have ea : ((acc.map fun l => within_ l.2 r.2).any id) = (acc.map (·.2)).any (fun l => within_ l r.2) := by
              rw [List.any_map, List.any_map]
              rfl
            rw [ea]
            refine ite2 (fun e2 => ?_) fun e2 => ?_
            · have e3 : (acc.map (·.2)).any (fun l => within_ l r.2) = false := by simpa using e2
              have cy : cnd S u (acc.map (·.2)) r.2 = true := by
                unfold cnd
                rw [e3, e]
                rfl
              refine ⟨_, rfl, .inl ⟨rfl, _, SqL.of (s46 _ _ hA.1)⟩, _, rfl, pl, _, _, rfl, rfl, s46 _ _ hA.1, small1000 (by rw [refs_len]; omega), ?_⟩
              have hA6 := hA.same s46
              refine ⟨_, _, acc ++ [r], rfl, ext_upd (eG.trans (LamX.ExtN.of s46)) nl, tabs_upd (tG.ext s46) hA6.1, lots_but (hS1.same s46) hA6.1 nps, lots_but (hP1.same s46) hA6.1 (Ne.symm lz), tup_but (s46 _ _ hc1) hA6.1, lots_app hA6 (s46 _ _ (hP1.2 r rP)), ?_, ?_, fun z hz => ?_⟩
              · rw [List.map_append, eT, ← eA]
                unfold stepB
                rw [if_pos cy]
                rfl
              · rw [List.length_append]
                show acc.length + 1 ≤ i + 1
                omega
              · rcases List.mem_append.mp hz with h | h
                · exact fA z h
                · rw [List.mem_singleton] at h
                  rw [h]
                  exact r5
            · have e3 : (acc.map (·.2)).any (fun l => within_ l r.2) = true := by simpa using e2
              refine same_acc _ s46 ?_
              unfold cnd
              rw [e3, Bool.not_true, Bool.and_false]
        · refine same_acc _ s45 ?_
          unfold cnd
          rw [show S (wo u r.2) = false from by simpa using e, Bool.false_and]
    · rintro σ G ⟨x5, x6, acc, rfl, eG, tG, hS1, hP1, hc1, hA, eA, lA, fA⟩
      refine ⟨_, rfl, q pl acc G eG tG hA ?_⟩
      rw [eA, refs_len, ← List.length_map (f := (·.2)) (as := PL), List.take_length, ePL]
      rfl
end
end Pl

namespace Pl
open L2 PySem PySem.Spec PyProof.Rows RZ
theorem pi_or {X : Cx} {tg e : Expr} {w1 w2 : TI} (h1 : PI X tg e w1) (h2 : PI X tg e w2) : PI X tg e (fun σ H R => w1 σ H R ∨ w2 σ H R) := ⟨fun pins s σ H R I h => h.elim (fun g => h1.run pins s σ H R I g) (fun g => h2.run pins s σ H R I g)⟩
theorem kitAny_no {K : PySem.W.Frag} {kd : String} (nl : PySem.W.kitOne K (.type kd) (.type "list") = some false) (nt : PySem.W.kitOne K (.type kd) (.type "tuple") = some false) : PySem.W.kitAny K (.type kd) [.type "list", .type "tuple"] = some false := by
  unfold PySem.W.kitAny
  rw [nl]
  show PySem.W.kitAny K (.type kd) [.type "tuple"] = some false
  unfold PySem.W.kitAny
  rw [nt]
  rfl
theorem kitAny_l {K : PySem.W.Frag} : PySem.W.kitAny K (.type "list") [.type "list", .type "tuple"] = some true := by
  unfold PySem.W.kitAny
  rw [show PySem.W.kitOne K (.type "list") (.type "list") = some true from kit_ty (show kitB "list" "list" = some true from by decide +kernel)]
theorem kitAny_t {K : PySem.W.Frag} : PySem.W.kitAny K (.type "tuple") [.type "list", .type "tuple"] = some true := by
  unfold PySem.W.kitAny
  rw [show PySem.W.kitOne K (.type "tuple") (.type "list") = some false from kit_ty (show kitB "tuple" "list" = some false from by decide +kernel)]
  show PySem.W.kitAny K (.type "tuple") [.type "tuple"] = some true
  unfold PySem.W.kitAny
  rw [show PySem.W.kitOne K (.type "tuple") (.type "tuple") = some true from kit_ty (show kitB "tuple" "tuple" = some true from by decide +kernel)]
abbrev OL := Option (List PyData)
inductive TzL (K : PySem.W.Frag) (H : Hp) : List V → List OL → Prop
  | nil : TzL K H [] []
  | cons {v : V} {o : OL} {vs : List V} {os : List OL} (a : Tz K H v o) (t : TzL K H vs os) : TzL K H (v :: vs) (o :: os)
theorem TzL.at {K : PySem.W.Frag} {H : Hp} : ∀ {vs : List V} {os : List OL} {i : Nat} {v : V}, TzL K H vs os → vs[i]? = some v → ∃ o, os[i]? = some o ∧ Tz K H v o
  | _, _, _, _, .nil, e => absurd e (by simp)
  | _, _, 0, _, .cons a _, e => by simp at e; subst e; exact ⟨_, rfl, a⟩
  | _, _, i + 1, _, .cons _ t, e => by
    obtain ⟨d, h1, h2⟩ := TzL.at (i := i) t (by simpa using e)
    exact ⟨d, by simpa using h1, h2⟩
theorem TzL.len {K : PySem.W.Frag} {H : Hp} : ∀ {vs : List V} {os : List OL}, TzL K H vs os → vs.length = os.length
  | _, _, .nil => rfl
  | _, _, .cons _ t => congrArg Nat.succ t.len
theorem TzL.same {K : PySem.W.Frag} {H G : Hp} (s : Same H G) : ∀ {vs : List V} {os : List OL}, TzL K H vs os → TzL K G vs os
  | _, _, .nil => .nil
  | _, _, .cons a t => .cons (a.same s) (t.same s)
/-- what is handed in as lots -/
inductive Wz (K : PySem.W.Frag) (H : Hp) : V → Option (List OL) → Prop
  | no {v : V} {kd : String} (t : ∀ G, Same H G → TyX K G v (.type kd)) (nl : PySem.W.kitOne K (.type kd) (.type "list") = some false) (nt : PySem.W.kitOne K (.type kd) (.type "tuple") = some false) : Wz K H v none
  | lst {a : Addr} {vs : List V} {os : List OL} (h : H a = some (.lst vs)) (m : TzL K H vs os) : Wz K H (.ref a) (some os)
  | tup {a : Addr} {vs : List V} {os : List OL} (h : H a = some (.tup vs)) (m : TzL K H vs os) : Wz K H (.ref a) (some os)
theorem Wz.same {K : PySem.W.Frag} {H G : Hp} {v : V} {o : Option (List OL)} (h : Wz K H v o) (s : Same H G) : Wz K G v o := by
  cases h with
  | no t nl nt => exact .no (fun F x => t F (s.trans x)) nl nt
  | lst h m => exact .lst (s _ _ h) (m.same s)
  | tup h m => exact .tup (s _ _ h) (m.same s)
/-- the index of the first that is no lot -/
def badAt : List OL → Nat → Option Int
  | [], _ => none
  | o :: os, i => if okT 5 o = true then badAt os (i + 1) else some (i : Int)
def badW : Option (List OL) → Option V
  | none => some .non
  | some os => (badAt os 0).map V.int
def Chk (K : PySem.W.Frag) (C : Addr) (H : Hp) (E : XK) (v : V) (Next : Prop) : Prop := ∃ o, Wz K H v o ∧ (∀ e, badW o = some e → Rais C e H E) ∧ (badW o = none → Next)
def ChkT (K : PySem.W.Frag) (C : Addr) (v1 v2 v3 : V) (H : Hp) (E : XK) (g : Prop) : Prop := Chk K C H E v1 (Chk K C H E v2 (∃ o3, Tz K H v3 o3 ∧ (okT 5 o3 = false → Rais C v3 H E) ∧ (okT 5 o3 = true → g)))
theorem ChkT.imp {K : PySem.W.Frag} {C : Addr} {v1 v2 v3 : V} {H : Hp} {E : XK} {g g' : Prop} (h : ChkT K C v1 v2 v3 H E g) (i : g → g') : ChkT K C v1 v2 v3 H E g' := by
  obtain ⟨o1, a1, b1, c1⟩ := h
  refine ⟨o1, a1, b1, fun e1 => ?_⟩
  obtain ⟨o2, a2, b2, c2⟩ := c1 e1
  refine ⟨o2, a2, b2, fun e2 => ?_⟩
  obtain ⟨o3, a3, b3, c3⟩ := c2 e2
  exact ⟨o3, a3, b3, fun e3 => i (c3 e3)⟩
theorem badAt_go : ∀ (os : List OL) (i j : Nat), (∀ k, k < j → ∀ o, os[k]? = some o → okT 5 o = true) → badAt os i = badAt (os.drop j) (i + j)
  | os, i, 0, _ => by rw [List.drop_zero]; rfl
  | [], i, j + 1, _ => rfl
  | o :: os, i, j + 1, h => by
    have h0 : okT 5 o = true := h 0 (by omega) o rfl
    have ih := badAt_go os (i + 1) j fun k hk o' ho => h (k + 1) (by omega) o' ho
    rw [List.drop_succ_cons, show i + (j + 1) = i + 1 + j by omega, ← ih]
    show (if okT 5 o = true then badAt os (i + 1) else _) = _
    rw [if_pos h0]
theorem badAt_here {os : List OL} {j : Nat} {o : OL} (h : ∀ k, k < j → ∀ o, os[k]? = some o → okT 5 o = true) (ho : os[j]? = some o) (n : okT 5 o = false) : badAt os 0 = some (j : Int) := by
  rw [badAt_go os 0 j h]
  obtain ⟨lt, e⟩ := List.getElem?_eq_some_iff.mp ho
  rw [List.drop_eq_getElem_cons lt, e]
  show (if okT 5 o = true then _ else some ((0 + j : Nat) : Int)) = _
  rw [if_neg (by rw [n]; decide), Nat.zero_add]
theorem badAt_none {os : List OL} (h : ∀ k, k < os.length → ∀ o, os[k]? = some o → okT 5 o = true) : badAt os 0 = none := by
  rw [badAt_go os 0 os.length h, List.drop_length]
  rfl
def spTold (K : PySem.W.Frag) (C : Addr) : Sp := fun vs H Q E => ∃ v1 v2 v3, vs = [v1, v2, v3] ∧ ChkT K C v1 v2 v3 H E (∀ G, Same H G → Q .non G)
abbrev nT : List Str := ["writes", "reads", "unruly", "lots", "index", "lot"]
abbrev psU : List Str := ["writes", "reads", "unruly"]
section
variable {P : Program} {K : PySem.W.Frag} {w : World} {base : Heap} {mg : Str → Option Value} {C : Addr}
theorem scTold : FnScope nT psU (defScope sCkTold) := ⟨rfl, rfl, rfl, by decide +kernel, rfl, by decide +kernel, by decide +kernel⟩
theorem ok_told {f : Addr} {fd : FuncData} (F : Fun K "_check_told" "_check_told" sCkTold f fd) (T : Cst mg) (M : Mak P w K mg base "NoLot" C) (D1 : Df P w K mg base 3 "is_lot" ["value", "count"] (spIsLot K)) (D2 : DfX P w K mg base 4 "check_lot" ["lot", "count"] (spCkLot K C)) : FnOk P w K mg base (L2.CX P w) 5 f fd psU (spTold K C) := by
  obtain ⟨e1, fd1, G1, m1, k1, b1⟩ := D1.ex
  obtain ⟨e2, fd2, G2, m2, k2, b2⟩ := D2.ex
  obtain ⟨fI, fdI, TE, GI, bI⟩ := M.ex
  obtain ⟨t5, h5⟩ := T.copies
  refine F.okX scTold (fun vs H Q E h => ?_) (fun cdv A outer s0 H vs Q E hr h => ?_)
  · obtain ⟨v1, v2, v3, rfl, _⟩ := h
    rfl
  · obtain ⟨v1, v2, v3, rfl, ck⟩ := h
    refine ⟨_, pss_cons (ps_for (passes_of rfl) rfl (pi_tup (pe_tup (pa_cons (pv 0) (pa_cons (pv 1) pa_nil)))) (pg_name (i := 3) scTold.nd rfl (Or.inl rfl))
        (pss_cons (ps_if (pt_not (pt_val (pe_callB call_isiT (by rfl) T.isi (by decide +kernel) (pa_cons (pv 3) (pa_cons (pe_tup (pa_cons (pe_bltn (v := .ty "list") (by rfl) T.tlst (by decide +kernel) rfl) (pa_cons (pe_bltn (v := .ty "tuple") (by rfl) T.ttup (by decide +kernel) rfl) pa_nil))) pa_nil)))))
          (pss_one (ps_raise rfl (takes_of rfl rfl rfl rfl) (pmk_oex TE.ox TE.iC TE.tI GI (hr.mono (by decide)) bI .nil pass0 (by rfl) TE.gC (pa_cons pe_non pa_nil)))) pss_nil)
        (pss_one (ps_for (passes_of rfl) rfl (pi_or (pi_enum rfl T.enum (pa_cons (pv 3) pa_nil)) (pi_enumT rfl T.enum (pa_cons (pv 3) pa_nil))) (pg_tup rfl (pgs_cons (pg_name (i := 4) scTold.nd rfl (Or.inl rfl)) (pgs_cons (pg_name (i := 5) scTold.nd rfl (Or.inl rfl)) pgs_nil)))
          (pss_one (ps_if (pt_not (pt_val (pe_call G1 (hr.mono (by decide)) (by rfl) m1 k1 b1 .nil pass0 (pa_cons (pv 5) (pa_cons (pe_glob (v := .int 5) (by rfl) h5 ⟨_, rfl⟩) pa_nil)))))
            (pss_one (ps_raise rfl (takes_of rfl rfl rfl rfl) (pmk_oex TE.ox TE.iC TE.tI GI (hr.mono (by decide)) bI .nil pass0 (by rfl) TE.gC (pa_cons (pv 4) pa_nil)))) pss_nil))))))
      (pss_one (ps_expr (pe_call (E := E) G2 hr (by rfl) m2 k2 b2 .nil (passes_call (takes_of rfl rfl rfl rfl) fun _ _ _ _ h => h) (pa_cons (pv 2) (pa_cons (pe_glob (v := .int 5) (by rfl) h5 ⟨_, rfl⟩) pa_nil))))), ?_⟩
    refine ⟨v1, rfl, v2, rfl, by show 2 ≤ sizeLine; decide, fun tp htp => ⟨tp, rfl, ⟨_, SqT.of upd_same⟩, ?_⟩⟩
    have sT := same_up (o := .tup [v1, v2]) htp
    have fT : upd H tp (.tup [v1, v2]) tp = some (.tup [v1, v2]) := upd_same
    generalize upd H tp (.tup [v1, v2]) = Ga at sT fT ⊢
    refine for_it (walk_tup (K := K) (a := tp) (xs := [v1, v2])) (fun i σ G => (∃ x3 x4 x5, σ = [some v1, some v2, some v3, x3, x4, x5]) ∧ Same H G ∧ G tp = some (.tup [v1, v2]) ∧ (if i = 0 then ChkT K C v1 v2 v3 H E (∀ G, Same H G → Q .non G) else if i = 1 then Chk K C H E v2 (∃ o3, Tz K H v3 o3 ∧ (okT 5 o3 = false → Rais C v3 H E) ∧ (okT 5 o3 = true → ∀ G, Same H G → Q .non G)) else ∃ o3, Tz K H v3 o3 ∧ (okT 5 o3 = false → Rais C v3 H E) ∧ (okT 5 o3 = true → ∀ G, Same H G → Q .non G)))
      ⟨⟨_, _, _, rfl⟩, sT, fT, ck⟩ (fun i σ G _ h => SqT.of h.2.2.1) ?_ ?_
    · rintro i y σ G G' hi ⟨⟨x3, x4, x5, rfl⟩, s1, fT1, hc⟩ ⟨rfl, hy⟩
      have hi : i < 2 := hi
      obtain ⟨Nx, ⟨o, wz, br, nx⟩, to⟩ : ∃ Nx, Chk K C H E y Nx ∧ (Nx → if i + 1 = 0 then ChkT K C v1 v2 v3 H E (∀ G, Same H G → Q .non G) else if i + 1 = 1 then Chk K C H E v2 (∃ o3, Tz K H v3 o3 ∧ (okT 5 o3 = false → Rais C v3 H E) ∧ (okT 5 o3 = true → ∀ G, Same H G → Q .non G)) else ∃ o3, Tz K H v3 o3 ∧ (okT 5 o3 = false → Rais C v3 H E) ∧ (okT 5 o3 = true → ∀ G, Same H G → Q .non G)) := by
        have c : i = 0 ∨ i = 1 := by omega
        rcases c with rfl | rfl
        · cases hy
          exact ⟨_, hc, fun h => h⟩
        · cases hy
          exact ⟨_, hc, fun h => h⟩
      refine ⟨y, rfl, by show 2 ≤ sizeLine; decide, fun tq htq => ?_⟩
      have s2 := s1.trans (same_up (o := .tup [.ty "list", .ty "tuple"]) htq)
      have fT2 : upd G' tq (.tup [.ty "list", .ty "tuple"]) tp = some (.tup [v1, v2]) := same_up htq _ _ fT1
      have fq : upd G' tq (.tup [.ty "list", .ty "tuple"]) tq = some (.tup [.ty "list", .ty "tuple"]) := upd_same
      generalize upd G' tq (.tup [.ty "list", .ty "tuple"]) = Gb at s2 fT2 fq ⊢
      cases wz with
      | no ty nl nt => exact ⟨y, tq, _, _, _, _, rfl, fq, .cons (.ty _) (.cons (.ty _) .nil), ty _ s2, kitAny_no nl nt, _, rfl, iteT (raised_c TE.ox TE.no ((br _ rfl).same s2))⟩
      | @lst a vs os h m =>
        have m_len := m.len
        refine ⟨.ref a, tq, _, _, _, _, rfl, fq, .cons (.ty _) (.cons (.ty _) .nil), .base (.lst (s2 _ _ h)), kitAny_l, _, rfl, iteF ?_⟩
        refine .inl ⟨.ref a, rfl, a, vs, rfl, SqL.of (s2 _ _ h), ?_⟩
        refine for_it (walk_enum (K := K) (a := a) (xs := vs)) (fun k σ G => (∃ x4 x5, σ = [some v1, some v2, some v3, some (.ref a), x4, x5]) ∧ Same Gb G ∧ ∀ m, m < k → ∀ o, os[m]? = some o → okT 5 o = true) ⟨⟨_, _, rfl⟩, fun _ _ e => e, fun m hm => absurd hm (Nat.not_lt_zero m)⟩ (fun k σ G _ g => SqL.of (g.2.1 _ _ (s2 _ _ h))) ?_ ?_
        · rintro k y σ G G' hk ⟨⟨x4, x5, rfl⟩, s3, ok⟩ ⟨T0, u, v, rfl, nT, rfl, hu, hv⟩
          cases hu
          obtain ⟨o, ho, tz⟩ := m.at hv
          have s4 := same_up (o := .tup [.int (k : Nat), v]) nT
          have s34 := s3.trans s4
          refine ⟨T0, _, rfl, SqT.of upd_same, rfl, _, _, rfl, _, _, rfl, rfl, ?_⟩
          refine ⟨v, rfl, v, 5, o, rfl, tz.same (s2.trans s34), fun G2 s5 => ⟨_, rfl, ?_⟩⟩
          refine ite2 (fun e => ?_) fun e => ?_
          · have e' : okT 5 o = false := by simpa using e
            exact raised_v TE.ox TE.no rfl ((br _ (by
              show (badAt os 0).map V.int = _
              rw [badAt_here ok ho e']
              rfl)).same ((s2.trans s34).trans s5))
          · have e' : okT 5 o = true := by simpa using e
            refine ⟨⟨_, _, rfl⟩, s34.trans s5, fun m hm o' ho' => ?_⟩
            by_cases c : m = k
            · subst c
              rw [ho] at ho'
              cases ho'
              exact e'
            · exact ok m (by omega) o' ho'
        · rintro σ G ⟨⟨x4, x5, rfl⟩, s3, ok⟩
          refine ⟨⟨_, _, _, rfl⟩, s2.trans s3, s3 _ _ fT2, to (nx ?_)⟩
          show (badAt os 0).map V.int = none
          rw [badAt_none fun m hm => ok m (by rw [m_len]; exact hm)]
          rfl
      | @tup a vs os h m =>
        have m_len := m.len
        refine ⟨.ref a, tq, _, _, _, _, rfl, fq, .cons (.ty _) (.cons (.ty _) .nil), .base (.tup (s2 _ _ h)), kitAny_t, _, rfl, iteF ?_⟩
        refine .inr ⟨.ref a, rfl, a, vs, rfl, SqT.of (s2 _ _ h), ?_⟩
        refine for_it (walk_enumT (K := K) (a := a) (xs := vs)) (fun k σ G => (∃ x4 x5, σ = [some v1, some v2, some v3, some (.ref a), x4, x5]) ∧ Same Gb G ∧ ∀ m, m < k → ∀ o, os[m]? = some o → okT 5 o = true) ⟨⟨_, _, rfl⟩, fun _ _ e => e, fun m hm => absurd hm (Nat.not_lt_zero m)⟩ (fun k σ G _ g => SqT.of (g.2.1 _ _ (s2 _ _ h))) ?_ ?_
        · rintro k y σ G G' hk ⟨⟨x4, x5, rfl⟩, s3, ok⟩ ⟨T0, u, v, rfl, nT, rfl, hu, hv⟩
          cases hu
          obtain ⟨o, ho, tz⟩ := m.at hv
          have s4 := same_up (o := .tup [.int (k : Nat), v]) nT
          have s34 := s3.trans s4
          refine ⟨T0, _, rfl, SqT.of upd_same, rfl, _, _, rfl, _, _, rfl, rfl, ?_⟩
          refine ⟨v, rfl, v, 5, o, rfl, tz.same (s2.trans s34), fun G2 s5 => ⟨_, rfl, ?_⟩⟩
          refine ite2 (fun e => ?_) fun e => ?_
          · have e' : okT 5 o = false := by simpa using e
            exact raised_v TE.ox TE.no rfl ((br _ (by
              show (badAt os 0).map V.int = _
              rw [badAt_here ok ho e']
              rfl)).same ((s2.trans s34).trans s5))
          · have e' : okT 5 o = true := by simpa using e
            refine ⟨⟨_, _, rfl⟩, s34.trans s5, fun m hm o' ho' => ?_⟩
            by_cases c : m = k
            · subst c
              rw [ho] at ho'
              cases ho'
              exact e'
            · exact ok m (by omega) o' ho'
        · rintro σ G ⟨⟨x4, x5, rfl⟩, s3, ok⟩
          refine ⟨⟨_, _, _, rfl⟩, s2.trans s3, s3 _ _ fT2, to (nx ?_)⟩
          show (badAt os 0).map V.int = none
          rw [badAt_none fun m hm => ok m (by rw [m_len]; exact hm)]
          rfl
    · rintro σ G ⟨⟨x3, x4, x5, rfl⟩, s1, fT1, hc⟩
      obtain ⟨o3, tz, q1, q2⟩ := hc
      exact ⟨v3, rfl, v3, 5, o3, rfl, tz.same s1, fun ok G' s' => q2 ok G' (s1.trans s'), fun no => (q1 no).same s1⟩
end
end Pl

namespace Pl
open L2 PySem PySem.Spec PyProof.Rows RZ
def rgZ (c : Int) : Z := (List.range c.toNat).map fun i => (0 : Int) + (i : Nat)
theorem rgV_rgZ (c : Int) : rgV 0 c = (rgZ c).map V.int := by
  unfold rgV rgZ
  rw [List.map_map, Int.sub_zero]
  rfl
theorem rgZ_lot (c : Int) : Lot c (rgZ c) := by
  constructor
  · unfold rgZ
    rw [List.pairwise_map]
    refine List.pairwise_lt_range.imp fun h => ?_
    omega
  · intro x hx
    obtain ⟨i, hi, rfl⟩ := List.mem_map.mp hx
    rw [List.mem_range] at hi
    omega
theorem rgZ_len (c : Int) : (rgZ c).length = c.toNat := by
  unfold rgZ
  rw [List.length_map, List.length_range]; skip
def ofSize (c n : Int) : List Z := (subs (rgZ c)).filter fun l => decide ((l.length : Int) = n)
theorem ofSize_lot {c n : Int} {l : Z} (h : l ∈ ofSize c n) : Lot c l := (rgZ_lot c).sub (mem_subs.mp (List.mem_filter.mp h).1)
/-- C(5, n) at most ten -/
theorem ofSize_len (c n : Int) (h : c ≤ 5) : (ofSize c n).length ≤ 10 := by
  have e : ∀ k : Nat, k ≤ 5 → ∀ n : Int, ((subs (rgZ (k : Int))).filter fun l => decide ((l.length : Int) = n)).length ≤ 10 := fun k hk n => by
    by_cases hn : 0 ≤ n ∧ n ≤ 5
    · have a : k = 0 ∨ k = 1 ∨ k = 2 ∨ k = 3 ∨ k = 4 ∨ k = 5 := by omega
      have b : n = 0 ∨ n = 1 ∨ n = 2 ∨ n = 3 ∨ n = 4 ∨ n = 5 := by omega
      rcases a with rfl | rfl | rfl | rfl | rfl | rfl <;> rcases b with rfl | rfl | rfl | rfl | rfl | rfl <;> decide +kernel
    · have : ((subs (rgZ (k : Int))).filter fun l => decide ((l.length : Int) = n)) = [] := by
        rw [List.filter_eq_nil_iff]
        intro l hl z
        have z := of_decide_eq_true z
        have := (mem_subs.mp hl).length_le
        rw [rgZ_len] at this
        omega
      rw [this]
      exact Nat.zero_le _
  unfold ofSize
  by_cases h0 : 0 ≤ c
  · have := e c.toNat (by omega) n
    rwa [show ((c.toNat : Nat) : Int) = c by omega] at this
  · have z : rgZ c = [] := by
      unfold rgZ
      rw [show c.toNat = 0 by omega]
      rfl
    rw [z]
    exact Nat.le_trans (List.length_filter_le _ _) (by decide)
def spAre (K : PySem.W.Frag) (C : Addr) : Sp := fun vs H Q E => ∃ v1 v2 v3, vs = [v1, v2, v3] ∧ ChkT K C v1 v2 v3 H E (∃ (a b c : Addr) (W R : List AT) (u : Z), v1 = .ref a ∧ v2 = .ref b ∧ v3 = .ref c ∧ LotsB H a W ∧ LotsB H b R ∧ W.length ≤ 10 ∧ R.length ≤ 10 ∧ (∀ q ∈ W, Lot 5 q.2) ∧ (∀ q ∈ R, Lot 5 q.2) ∧ H c = some (.tup (u.map V.int)) ∧
  ∀ G, Same H G → Q (.bl (safe (W.map (·.2)) (R.map (·.2)) u)) G)
def spLeastB (K : PySem.W.Frag) (Tb : TbL) (C : Addr) : Sp := fun vs H Q E => ∃ v1 v2 v3, vs = [v1, v2, v3] ∧ ChkT K C v1 v2 v3 H E (∃ (a b c : Addr) (W R : List AT) (u : Z), v1 = .ref a ∧ v2 = .ref b ∧ v3 = .ref c ∧ LotsB H a W ∧ LotsB H b R ∧ W.length ≤ 10 ∧ R.length ≤ 10 ∧ (∀ q ∈ W, Lot 5 q.2) ∧ (∀ q ∈ R, Lot 5 q.2) ∧ H c = some (.tup (u.map V.int)) ∧ Lot 5 u ∧ LamX.Tabs Tb H ∧
  ∀ p L G, LamX.ExtN H G → LamX.Tabs Tb G → Lots G p L → L.map (·.2) = leastS (safe (W.map (·.2)) (R.map (·.2))) u → Q (.ref p) G)
def spByC (K : PySem.W.Frag) (Tb : TbL) (CN CL : Addr) : Sp := fun vs H Q E => ∃ v1 v2 v3 v4, vs = [v1, v2, v3, v4] ∧ Cks CN v1 v2 v3 (.int 0) (.int 2) H E fun c r w _ _ => ∃ o, Tz K H v4 o ∧ (okT c o = false → Rais CL v4 H E) ∧ (okT c o = true → ∃ (d : Addr) (u : Z), v4 = .ref d ∧ H d = some (.tup (u.map V.int)) ∧ Lot c u ∧ LamX.Tabs Tb H ∧
  ∀ p L G, LamX.ExtN H G → LamX.Tabs Tb G → Lots G p L → L.map (·.2) = leastS (safe (ofSize c w) (ofSize c r)) u → Q (.ref p) G)
abbrev ps4 : List Str := ["count", "reads", "writes", "unruly"]
abbrev nBC : List Str := ["count", "reads", "writes", "unruly", "lots"]
abbrev psC : List Str := ["count", "reads", "writes", "unruly", "pages"]
section
variable {P : Program} {K : PySem.W.Frag} {w : World} {base : Heap} {mg : Str → Option Value} {CN CL : Addr} {Tb : TbL}
theorem scAre : FnScope psU psU (defScope sAreSafe) := ⟨rfl, rfl, rfl, by decide +kernel, rfl, by decide +kernel, by decide +kernel⟩
theorem ok_are {f : Addr} {fd : FuncData} (F : Fun K "are_safe" "are_safe" sAreSafe f fd) (D1 : DfX P w K mg base 5 "_check_told" psU (spTold K CL)) (D2 : Df P w K mg base 2 "_shared_lots" ["writes", "reads"] spShared) (D3 : Df P w K mg base 2 "_is_had" ["shared", "unruly"] spHad) : FnOk P w K mg base (L2.CX P w) 6 f fd psU (spAre K CL) := by
  obtain ⟨e1, fd1, G1, m1, k1, b1⟩ := D1.ex
  obtain ⟨e2, fd2, G2, m2, k2, b2⟩ := D2.ex
  obtain ⟨e3, fd3, G3, m3, k3, b3⟩ := D3.ex
  refine F.okX scAre (fun vs H Q E h => ?_) (fun cdv A outer s H vs Q E hr h => ?_)
  · obtain ⟨v1, v2, v3, rfl, _⟩ := h
    rfl
  · obtain ⟨v1, v2, v3, rfl, ck⟩ := h
    refine ⟨_, pss_cons (ps_expr (pe_call (E := E) G1 hr (by rfl) m1 k1 b1 .nil (passes_call (takes_of rfl rfl rfl rfl) fun _ _ _ _ h => h) (pa_cons (pv 0) (pa_cons (pv 1) (pa_cons (pv 2) pa_nil)))))
      (pss_one (ps_ret (pe_call G3 (hr.mono (by decide)) (by rfl) m3 k3 b3 .nil pass0 (pa_cons (pe_call G2 (hr.mono (by decide)) (by rfl) m2 k2 b2 .nil pass0 (pa_cons (pv 0) (pa_cons (pv 1) pa_nil))) (pa_cons (pv 2) pa_nil))))), ?_⟩
    refine ⟨v1, rfl, v2, rfl, v3, rfl, v1, v2, v3, rfl, ck.imp ?_⟩
    rintro ⟨a, b, c, W, R, u, rfl, rfl, rfl, hW, hR, lW, lR, fW, fR, hc, q⟩ G s1
    refine ⟨_, rfl, _, rfl, a, b, W, R, rfl, hW.same s1, hR.same s1, lW, lR, fW, fR, fun ps SL Ga s2 hSL lSL l5 mSL => ?_⟩
    refine ⟨_, rfl, ps, c, SL, u, rfl, hSL, lSL, l5, s2 _ _ (s1 _ _ hc), fun Gb s3 => ?_⟩
    rw [had_safe mSL]
    exact q _ ((s1.trans s2).trans s3)
theorem scLeastB : FnScope psU psU (defScope sLeastB) := ⟨rfl, rfl, rfl, by decide +kernel, rfl, by decide +kernel, by decide +kernel⟩
theorem ok_leastb {f : Addr} {fd : FuncData} (F : Fun K "least_bars" "least_bars" sLeastB f fd) (D1 : DfX P w K mg base 5 "_check_told" psU (spTold K CL)) (D2 : Df P w K mg base 4 "_least_bars" psU (spLB Tb)) : FnOk P w K mg base (L2.CX P w) 6 f fd psU (spLeastB K Tb CL) := by
  obtain ⟨e1, fd1, G1, m1, k1, b1⟩ := D1.ex
  obtain ⟨e2, fd2, G2, m2, k2, b2⟩ := D2.ex
  refine F.okX scLeastB (fun vs H Q E h => ?_) (fun cdv A outer s H vs Q E hr h => ?_)
  · obtain ⟨v1, v2, v3, rfl, _⟩ := h
    rfl
  · obtain ⟨v1, v2, v3, rfl, ck⟩ := h
    refine ⟨_, pss_cons (ps_expr (pe_call (E := E) G1 hr (by rfl) m1 k1 b1 .nil (passes_call (takes_of rfl rfl rfl rfl) fun _ _ _ _ h => h) (pa_cons (pv 0) (pa_cons (pv 1) (pa_cons (pv 2) pa_nil)))))
      (pss_one (ps_ret (pe_call G2 (hr.mono (by decide)) (by rfl) m2 k2 b2 .nil pass0 (pa_cons (pv 0) (pa_cons (pv 1) (pa_cons (pv 2) pa_nil)))))), ?_⟩
    refine ⟨v1, rfl, v2, rfl, v3, rfl, v1, v2, v3, rfl, ck.imp ?_⟩
    rintro ⟨a, b, c, W, R, u, rfl, rfl, rfl, hW, hR, lW, lR, fW, fR, hc, fu, hT, q⟩ G s1
    exact ⟨_, rfl, _, rfl, _, rfl, a, b, c, W, R, u, rfl, hW.same s1, hR.same s1, lW, lR, fW, fR, s1 _ _ hc, fu, hT.ext s1, fun p L Ga eN tN hL eL => q p L Ga ((LamX.ExtN.of s1).trans eN) tN hL eL⟩
theorem Cks.imp {C : Addr} {v1 v2 v3 v4 v5 : V} {H : Hp} {E : XK} {g1 g2 : Int → Int → Int → Int → Int → Prop} (h : Cks C v1 v2 v3 v4 v5 H E g1)
    (i : ∀ c r w u p, v1 = .int c → v2 = .int r → v3 = .int w → 1 ≤ c → c ≤ 5 → 1 ≤ r → r ≤ c → 1 ≤ w → w ≤ c → g1 c r w u p → g2 c r w u p) : Cks C v1 v2 v3 v4 v5 H E g2 := by
  obtain ⟨d1, f1, q1, r1⟩ := h
  refine ⟨d1, f1, fun i1 c e1 a1 b1 => ?_, r1⟩
  obtain ⟨d2, f2, q2, r2⟩ := q1 i1 c e1 a1 b1
  refine ⟨d2, f2, fun i2 r e2 a2 b2 => ?_, r2⟩
  obtain ⟨d3, f3, q3, r3⟩ := q2 i2 r e2 a2 b2
  refine ⟨d3, f3, fun i3 w e3 a3 b3 => ?_, r3⟩
  obtain ⟨d4, f4, q4, r4⟩ := q3 i3 w e3 a3 b3
  refine ⟨d4, f4, fun i4 u e4 a4 b4 => ?_, r4⟩
  obtain ⟨d5, f5, q5, r5⟩ := q4 i4 u e4 a4 b4
  exact ⟨d5, f5, fun i5 p e5 a5 b5 => i c r w u p e1 e2 e3 a1 b1 a2 b2 a3 b3 (q5 i5 p e5 a5 b5), r5⟩
theorem scByC : FnScope nBC ps4 (defScope sByCount) := ⟨rfl, rfl, rfl, by decide +kernel, rfl, by decide +kernel, by decide +kernel⟩
theorem ok_byc {f : Addr} {fd : FuncData} (F : Fun K "bars_by_count" "bars_by_count" sByCount f fd) (T : Cst mg) (D1 : DfX P w K mg base 4 "check_counts" psC (spCks CN fun _ _ _ _ _ H Q => Q .non H)) (D2 : DfX P w K mg base 4 "check_lot" ["lot", "count"] (spCkLot K CL)) (D3 : Df P w K mg base 3 "all_lots" ["copies"] (spParts Tb)) (D4 : Df P w K mg base 4 "_least_bars" psU (spLB Tb)) (D5 : Df P w K mg base 1 "_of_size" ["lots", "size"] spSize) : FnOk P w K mg base (L2.CX P w) 5 f fd ps4 (spByC K Tb CN CL) := by
  obtain ⟨e1, fd1, G1, m1, k1, b1⟩ := D1.ex
  obtain ⟨e2, fd2, G2, m2, k2, b2⟩ := D2.ex
  obtain ⟨e3, fd3, G3, m3, k3, b3⟩ := D3.ex
  obtain ⟨e4, fd4, G4, m4, k4, b4⟩ := D4.ex
  obtain ⟨e5, fd5, G5, m5, k5, b5⟩ := D5.ex
  refine F.okX scByC (fun vs H Q E h => ?_) (fun cdv A outer s H vs Q E hr h => ?_)
  · obtain ⟨v1, v2, v3, v4, rfl, _⟩ := h
    rfl
  · obtain ⟨v1, v2, v3, v4, rfl, ck⟩ := h
    refine ⟨_, pss_cons (ps_expr (pe_call (E := E) G1 hr (by rfl) m1 k1 b1 .nil (passes_call (takes_of rfl rfl rfl rfl) fun _ _ _ _ h => h) (pa_cons (pv 0) (pa_cons (pv 1) (pa_cons (pv 2) (pa_cons pe_int (pa_cons pe_int pa_nil)))))))
      (pss_cons (ps_expr (pe_call (E := E) G2 hr (by rfl) m2 k2 b2 .nil (passes_call (takes_of rfl rfl rfl rfl) fun _ _ _ _ h => h) (pa_cons (pv 3) (pa_cons (pv 0) pa_nil))))
      (pss_cons (ps_set (i := 4) scByC.nd rfl (Or.inl rfl) (pe_call G3 (hr.mono (by decide)) (by rfl) m3 k3 b3 .nil pass0 (pa_cons (pe_listRg rfl (by rfl) T.tlst (prg_1 (by rfl) T.rng (pv 0))) pa_nil)))
      (pss_one (ps_ret (pe_call G4 hr (by rfl) m4 k4 b4 .nil pass0 (pa_cons (pe_call G5 (hr.mono (by decide)) (by rfl) m5 k5 b5 .nil pass0 (pa_cons (pv 4) (pa_cons (pv 2) pa_nil))) (pa_cons (pe_call G5 (hr.mono (by decide)) (by rfl) m5 k5 b5 .nil pass0 (pa_cons (pv 4) (pa_cons (pv 1) pa_nil))) (pa_cons (pv 3) pa_nil)))))))), ?_⟩
    refine ⟨v1, rfl, v2, rfl, v3, rfl, v1, v2, v3, .int 0, .int 2, rfl, ck.imp ?_⟩
    rintro c r w _ _ rfl rfl rfl c0 c1 r0 r1 w0 w1 ⟨o, tz, bad, good⟩
    refine ⟨v4, rfl, _, rfl, v4, c, o, rfl, tz, fun ok Ga s1 => ?_, bad⟩
    obtain ⟨d, u, rfl, hd, fu, hT, q⟩ := good ok
    refine ⟨_, rfl, _, rfl, .of_le (by omega) (by omega) (by omega) (by omega), fun l hl => ?_⟩
    rw [rgV_rgZ]
    have s2 := s1.trans (same_up (o := .lst ((rgZ c).map V.int)) hl)
    have fl : upd Ga l (.lst ((rgZ c).map V.int)) l = some (.lst ((rgZ c).map V.int)) := upd_same
    generalize upd Ga l (.lst ((rgZ c).map V.int)) = Gb at s2 fl ⊢
    refine ⟨l, rgZ c, rfl, .inr fl, by rw [rgZ_len]; omega, hT.ext s2, fun p PL Gc eN tN hPL ePL => ?_⟩
    have lPL : PL.length ≤ 32 := by
      have e := congrArg List.length ePL
      rw [List.length_map, (parts_perm _).length_eq, subs_len, rgZ_len] at e
      rw [e]
      exact pow5 (by omega)
    have fP : ∀ q ∈ PL, Lot c q.2 := fun q hq => (rgZ_lot c).sub (mem_parts.mp (ePL ▸ List.mem_map.mpr ⟨q, hq, rfl⟩))
    have fP5 : ∀ q ∈ PL, Lot 5 q.2 := fun q hq => (fP q hq).mono c1
    have l64 : ∀ q ∈ PL, q.2.length ≤ 64 := fun q hq => Nat.le_trans (fP5 q hq).len (by decide)
    have mS : ∀ n : Int, ((PL.filter fun q => decide ((q.2.length : Int) = n)).map (·.2)) = (parts (rgZ c)).filter fun l => decide ((l.length : Int) = n) := fun n => by
      rw [← ePL, List.filter_map]
      rfl
    have pS : ∀ n : Int, ((parts (rgZ c)).filter fun l => decide ((l.length : Int) = n)).Perm (ofSize c n) := fun n => (parts_perm _).filter _
    have lS : ∀ n : Int, (PL.filter fun q => decide ((q.2.length : Int) = n)).length ≤ 10 := fun n => by
      have e := congrArg List.length (mS n)
      rw [List.length_map, (pS n).length_eq] at e
      rw [e]
      exact ofSize_len c n c1
    refine ⟨_, rfl, _, rfl, p, PL, w, rfl, hPL, by omega, l64, fun pw Gd s3 hW => ?_⟩
    refine ⟨_, rfl, _, rfl, p, PL, r, rfl, hPL.same s3, by omega, l64, fun pr Ge s4 hR => ?_⟩
    have s34 := s3.trans s4
    have eAll := ((LamX.ExtN.of s2).trans eN).trans (LamX.ExtN.of s34)
    refine ⟨_, rfl, pw, pr, d, _, _, u, rfl, (hW.same s4).b, hR.b, lS w, lS r, fun q hq => fP5 q (List.mem_filter.mp hq).1, fun q hq => fP5 q (List.mem_filter.mp hq).1, eAll _ _ hd (fun _ z => by cases z), fu.mono c1, tN.ext s34, fun p2 L2 Gf eN2 tN2 hL2 eL2 => ?_⟩
    refine q p2 L2 Gf (eAll.trans eN2) tN2 hL2 ?_
    rw [eL2, mS, mS]
    exact leastS_congr (fun b => safe_mem (fun l => (pS w).mem_iff) (fun l => (pS r).mem_iff) fun x => Iff.rfl) u
end
end Pl

namespace Pl
open L2 PySem PySem.Spec PyProof.Rows RZ
/-- the source of draws stands at z -/
def Src (z : Addr) (H : Hp) : Prop := ∃ x y : Int, H z = some (.lst [.int x, .int y]) ∧ 0 ≤ x ∧ 0 ≤ y ∧ y < 2147483647
theorem Src.some {z : Addr} {H : Hp} (h : Src z H) : ∃ o, H z = some o := let ⟨x, y, e, _⟩ := h; ⟨_, e⟩
def spPool (K : PySem.W.Frag) : Sp := fun vs H Q _ => ∃ (a : Addr) (ns : List Int) (k : Int), vs = [.ref a, .int k] ∧ SqL K H a (ns.map V.int) ∧ 0 ≤ k ∧ k ≤ 10 ∧ ∀ p H', H p = none → Same H H' → Src p H' → Q (.ref p) H'
def spTake : Sp := fun vs H Q _ => ∃ (z : Addr) (t : Int), vs = [.ref z, .int t] ∧ Src z H ∧ 0 < t ∧ t ≤ 1000 ∧ ∀ (r : Int) (H' : Hp), 0 ≤ r → r < t → But z H H' → Src z H' → Q (.int r) H'
section
variable {P : Program} {K : PySem.W.Frag} {w : World} {base : Heap} {mg : Str → Option Value}
theorem scPool : FnScope ["_law_script", "_law_k", "_law_cell", "_law_big", "_law_mixed"] ["_law_script", "_law_k"] (defScope sPool) := ⟨rfl, rfl, rfl, by decide +kernel, rfl, by decide +kernel, by decide +kernel⟩
theorem ok_pool {f : Addr} {fd : FuncData} (F : Fun K "_law_pool" "_law_pool" sPool f fd) (T : Cst mg) : FnOk P w K mg base CX0 1 f fd ["_law_script", "_law_k"] (spPool K) := by
  refine F.ok scPool (fun vs H Q E h => ?_) (fun cdv A outer s H vs Q E hr h => ?_)
  · obtain ⟨a, ns, k, rfl, _⟩ := h; skip
    rfl
  · obtain ⟨a, ns, k, rfl, hS, k0, k1, q⟩ := h
    refine ⟨_, pss_cons (ps_set (i := 2) scPool.nd rfl (Or.inl rfl) pe_int)
      (pss_cons (ps_if (pt_cmpR op_lt (pv 1) (pe_callB call_len_seq (by rfl) T.len PySem.boot_len (pa_cons (pv 0) pa_nil)) (nomark _))
        (pss_one (ps_set (i := 2) scPool.nd rfl (Or.inl rfl) (pe_ix ix_list (pv 0) (pv 1) (fun _ _ => rfl)))) pss_nil)
      (pss_cons (ps_set (i := 3) scPool.nd rfl (Or.inl rfl) (pe_callB (call_max2 rfl) (by rfl) T.max_ (by decide +kernel) (pa_cons (pe_callTy call_int1 (by rfl) T.tint (by decide +kernel) (pa_cons (pv 2) pa_nil))
        (pa_cons (pe_callTy call_int1 (by rfl) T.tint (by decide +kernel) (pa_cons (pe_op op_sub (pe_un un_neg pe_int) (pv 2)) pa_nil)) pa_nil))))
      (pss_cons (ps_set (i := 4) scPool.nd rfl (Or.inl rfl) (pe_op op_mod (pe_callTy call_int1 (by rfl) T.tint (by decide +kernel) (pa_cons
          (pe_op op_mul (pe_op op_add (pe_op op_add (pe_op op_add (pe_op op_mod (pe_callTy call_int1 (by rfl) T.tint (by decide +kernel) (pa_cons (pv 3) pa_nil)) pe_int) (pe_op op_mul (pe_op op_mul pe_int (pv 1)) (pv 1))) (pe_op op_mul pe_int (pv 1))) pe_int) pe_int) pa_nil)) pe_int))
      (pss_one (ps_ret (pe_lst (pa_cons (pe_op op_mul (pv 3) (pe_callTy call_int1 (by rfl) T.tint (by decide +kernel) (pa_cons (pe_cmpR op_ge (pv 3) (pe_op op_pow pe_int pe_int) (nomark _)) pa_nil))) (pa_cons (pv 4) pa_nil)))))))), ?_⟩
    have hbig : ∀ c : Int, 0 ≤ (if (-1 - c) > c then (-1 - c) else c) := fun c => by
      split <;> omega
    have fin : ∀ (b : Int) (p : Addr) (G : Hp), 0 ≤ b → H p = none → Same H G → G p = some (.lst [.int (b * (if decide (b ≥ 10 ^ 18) = true then 1 else 0)), .int (((b % 2147483629 + 7919 * k * k + 31 * k + 17) * 48271) % 2147483647)]) → Q (.ref p) G := fun b p G hb hp sG hG => by
      refine q p G hp sG ⟨_, _, hG, ?_, Int.emod_nonneg _ (by decide), Int.emod_lt_of_pos _ (by decide)⟩
      refine Int.mul_nonneg hb ?_
      split <;> decide
    have bnd : ∀ b : Int, 0 ≤ b % 2147483629 ∧ b % 2147483629 < 2147483629 := fun b => ⟨Int.emod_nonneg _ (by decide), Int.emod_lt_of_pos _ (by decide)⟩
    have kk : 0 ≤ 7919 * k ∧ 7919 * k ≤ 79190 := ⟨by omega, by omega⟩
    have kk2 : 0 ≤ 7919 * k * k ∧ 7919 * k * k ≤ 791900 := ⟨Int.mul_nonneg kk.1 k0, by
      have := Int.mul_le_mul kk.2 k1 k0 (by omega)
      omega⟩
    refine ⟨_, rfl, _, rfl, a, _, rfl, .inl hS, _, _, rfl, rfl, _, rfl, ?_⟩; skip
    refine ite2 (fun e => ?_) fun e => ?_
    · obtain ⟨j, rfl⟩ : ∃ j : Nat, k = j := ⟨k.toNat, by omega⟩
      have hj : j < ns.length := by
        have := of_decide_eq_true e
        rw [List.length_map] at this
        omega
      refine ⟨_, rfl, _, rfl, a, _, _, .int ns[j], rfl, rfl, hS, atI_nat (by rw [List.getElem?_map, List.getElem?_eq_getElem hj]; rfl), ?_⟩
      refine ⟨_, rfl, .inl ⟨_, rfl, ?_⟩⟩
      refine ⟨_, rfl, _, rfl, _, _, rfl, rfl, .inl ⟨_, rfl, ?_⟩⟩
      refine ⟨_, _, rfl, ?_⟩
      have hb := hbig (ns[j])
      revert hb
      generalize (if (-1 - ns[j]) > ns[j] then (-1 - ns[j]) else ns[j]) = b
      intro hb
      have h1 := bnd b
      refine ⟨_, rfl, .inl ⟨_, rfl, _, _, rfl, rfl, (by show (0 : Int) < 2147483629; decide), ?_⟩⟩
      refine ⟨_, rfl, _, _, rfl, rfl, .inl ⟨by decide, by decide⟩, _, rfl, _, _, rfl, rfl, .inl ⟨by omega, by omega⟩, ?_⟩
      refine ⟨_, _, rfl, rfl, _, rfl, _, _, rfl, rfl, .inl ⟨by decide, by decide⟩, _, _, rfl, rfl, _, _, rfl, rfl, ?_⟩
      refine ⟨_, _, rfl, rfl, .inl ⟨by omega, by omega⟩, .inl ⟨_, rfl, _, _, rfl, rfl, (by show (0 : Int) < 2147483647; decide), ?_⟩⟩
      refine ⟨_, rfl, _, rfl, _, _, rfl, rfl, ⟨by decide, by decide, by decide⟩, _, _, rfl, rfl, .inr ⟨_, rfl, _, _, rfl, rfl, .inr ⟨?_, ?_⟩, _, rfl, (by show 2 ≤ sizeLine; decide), fun p hp => fin b p _ hb hp (same_new hp) upd_same⟩⟩
      · split <;> decide
      · split <;> decide
    · refine ⟨_, rfl, .inl ⟨_, rfl, ?_⟩⟩
      refine ⟨_, rfl, _, rfl, _, _, rfl, rfl, .inl ⟨_, rfl, ?_⟩⟩
      refine ⟨_, _, rfl, ?_⟩
      have hb := hbig (0)
      revert hb
      generalize (if (-1 - 0) > 0 then (-1 - 0) else 0) = b
      intro hb
      have h1 := bnd b
      refine ⟨_, rfl, .inl ⟨_, rfl, _, _, rfl, rfl, (by show (0 : Int) < 2147483629; decide), ?_⟩⟩
      refine ⟨_, rfl, _, _, rfl, rfl, .inl ⟨by decide, by decide⟩, _, rfl, _, _, rfl, rfl, .inl ⟨by omega, by omega⟩, ?_⟩
      refine ⟨_, _, rfl, rfl, _, rfl, _, _, rfl, rfl, .inl ⟨by decide, by decide⟩, _, _, rfl, rfl, _, _, rfl, rfl, ?_⟩
      refine ⟨_, _, rfl, rfl, .inl ⟨by omega, by omega⟩, .inl ⟨_, rfl, _, _, rfl, rfl, (by show (0 : Int) < 2147483647; decide), ?_⟩⟩
      refine ⟨_, rfl, _, rfl, _, _, rfl, rfl, ⟨by decide, by decide, by decide⟩, _, _, rfl, rfl, .inr ⟨_, rfl, _, _, rfl, rfl, .inr ⟨?_, ?_⟩, _, rfl, (by show 2 ≤ sizeLine; decide), fun p hp => fin b p _ hb hp (same_new hp) upd_same⟩⟩
      · split <;> decide
      · split <;> decide
theorem scTake : FnScope ["_law_source", "_law_top", "_law_told"] ["_law_source", "_law_top"] (defScope sTake) := ⟨rfl, rfl, rfl, by decide +kernel, rfl, by decide +kernel, by decide +kernel⟩
theorem ok_take {f : Addr} {fd : FuncData} (F : Fun K "_law_take" "_law_take" sTake f fd) (T : Cst mg) : FnOk P w K mg base CX0 1 f fd ["_law_source", "_law_top"] spTake := by
  refine F.ok scTake (fun vs H Q E h => ?_) (fun cdv A outer s H vs Q E hr h => ?_)
  · obtain ⟨z, t, rfl, _⟩ := h
    rfl
  · obtain ⟨z, t, rfl, ⟨x, y, hz, x0, y0, y1⟩, t0, t1, q⟩ := h
    refine ⟨_, pss_cons (ps_if (pt_cmpR op_gt (pe_ix ix_list (pv 0) pe_int (fun _ _ => rfl)) pe_int (nomark _))
        (pss_cons (ps_set (i := 2) scTake.nd rfl (Or.inl rfl) (pe_op op_mod (pe_callTy call_int1 (by rfl) T.tint (by decide +kernel) (pa_cons (pe_ix ix_list (pv 0) pe_int (fun _ _ => rfl)) pa_nil)) (pv 1)))
        (pss_cons (ps_asg (pe_op op_fdiv (pe_ix ix_list (pv 0) pe_int (fun _ _ => rfl)) (pv 1)) (pg_sub (pv 0) pe_int L2.set_list))
        (pss_one (ps_ret (pv 2))))) pss_nil)
      (pss_cons (ps_asg (pe_op op_mod (pe_callTy call_int1 (by rfl) T.tint (by decide +kernel) (pa_cons (pe_op op_add (pe_op op_mul (pe_ix ix_list (pv 0) pe_int (fun _ _ => rfl)) pe_int) pe_int) pa_nil)) pe_int) (pg_sub (pv 0) pe_int L2.set_list))
      (pss_one (ps_ret (pe_op op_mod (pe_callTy call_int1 (by rfl) T.tint (by decide +kernel) (pa_cons (pe_op op_fdiv (pe_op op_mod (pe_callTy call_int1 (by rfl) T.tint (by decide +kernel) (pa_cons (pe_op op_mul (pe_ix ix_list (pv 0) pe_int (fun _ _ => rfl)) (pe_ix ix_list (pv 0) pe_int (fun _ _ => rfl))) pa_nil)) pe_int) pe_int) pa_nil)) (pv 1))))), ?_⟩
    refine ⟨_, rfl, z, _, _, .int x, rfl, rfl, SqL.of hz, atI_nat (j := 0) rfl, _, _, rfl, rfl, _, rfl, ?_⟩
    refine ite2 (fun e => ?_) fun e => ?_
    · refine ⟨_, rfl, z, _, _, .int x, rfl, rfl, SqL.of hz, atI_nat (j := 0) rfl, .inl ⟨_, rfl, _, rfl, _, _, rfl, rfl, t0, ?_⟩⟩
      refine ⟨_, rfl, z, _, _, .int x, rfl, rfl, SqL.of hz, atI_nat (j := 0) rfl, _, rfl, _, _, rfl, rfl, ⟨t0, by omega⟩, ?_⟩
      refine ⟨_, rfl, z, _, _, 0, rfl, rfl, hz, rfl, _, rfl, ?_⟩
      exact q _ _ (Int.emod_nonneg _ (by omega)) (Int.emod_lt_of_pos _ t0) But.upd ⟨_, _, upd_same, Int.ediv_nonneg x0 (by omega), y0, y1⟩
    · refine ⟨_, rfl, z, _, _, .int y, rfl, rfl, SqL.of hz, atI_nat (j := 1) rfl, _, _, rfl, rfl, .inl ⟨by omega, by omega⟩, _, _, rfl, rfl, .inl ⟨_, rfl, _, _, rfl, rfl, (by show (0 : Int) < 2147483647; decide), ?_⟩⟩
      have h2 : 0 ≤ (y * 39373 + 7) % 2147483647 ∧ (y * 39373 + 7) % 2147483647 < 2147483647 := ⟨Int.emod_nonneg _ (by decide), Int.emod_lt_of_pos _ (by decide)⟩
      refine ⟨_, rfl, z, _, _, 1, rfl, rfl, hz, rfl, ?_⟩
      have hz2 : upd H z (.lst ([V.int x, V.int y].set 1 (V.int ((y * 39373 + 7) % 2147483647)))) z = some (.lst [.int x, .int ((y * 39373 + 7) % 2147483647)]) := upd_same
      refine ⟨_, rfl, z, _, _, .int ((y * 39373 + 7) % 2147483647), rfl, rfl, SqL.of hz2, atI_nat (j := 1) rfl, _, rfl, z, _, _, .int ((y * 39373 + 7) % 2147483647), rfl, rfl, SqL.of hz2, atI_nat (j := 1) rfl, _, _, rfl, rfl, .inl ⟨by omega, by omega⟩, .inl ⟨_, rfl, _, _, rfl, rfl, (by show (0 : Int) < 2147483629; decide), ?_⟩⟩
      refine ⟨_, _, rfl, rfl, ⟨by decide, by decide⟩, .inl ⟨_, rfl, _, rfl, _, _, rfl, rfl, t0, ?_⟩⟩
      exact q _ _ (Int.emod_nonneg _ (by omega)) (Int.emod_lt_of_pos _ t0) But.upd ⟨_, _, hz2, x0, h2.1, h2.2⟩
end
theorem Src.ext {z : Addr} {H G : Hp} (h : Src z H) (e : LamX.ExtN H G) : Src z G := by
  obtain ⟨x, y, hz, r⟩ := h
  exact ⟨x, y, e _ _ hz (fun _ q => by cases q), r⟩
theorem Src.same {z : Addr} {H G : Hp} (h : Src z H) (e : Same H G) : Src z G := h.ext (LamX.ExtN.of e)
theorem Src.upd {z D : Addr} {H : Hp} {o : HO} (h : Src z H) (n : D ≠ z) : Src z (L2.upd H D o) := by
  obtain ⟨x, y, hz, r⟩ := h
  exact ⟨x, y, (upd_ne (Ne.symm n)).trans hz, r⟩
theorem But.sup {z : Addr} {H G : Hp} {D : Addr} {o : HO} (hD : H D = none) (s : But z H G) : But z H (L2.upd G D o) := fun b u n t hb => by
  rw [upd_ne (ne_of_none hb hD)]
  exact s b u n t hb
theorem rI0_to {g : Int → Int → V} {i j : Int} {v : V} {H : Hp} {Q : VK} (e : g i j = v) (q : Q v H) : rI0 g (.int i) (.int j) H Q := ⟨i, j, rfl, rfl, e ▸ q⟩
def spDraw : Sp := fun vs H Q _ => ∃ (z : Addr) (n : Int), vs = [.ref z, .int n] ∧ Src z H ∧ 0 ≤ n ∧ n ≤ 5 ∧ ∀ t l G, But z H G → Src z G → H t = none → G t = some (.tup (l.map V.int)) → Lot n l → Q (.ref t) G
def spLAll : Sp := fun vs H Q _ => ∃ (n k : Int), vs = [.int n, .int k] ∧ 0 ≤ n ∧ n ≤ 5 ∧ ∀ p L G, Same H G → Lots G p L → (L.map (·.2)).Perm (ofSize n k) → Q (.ref p) G
/-- ints, as a list or a tuple -/
def Ints (H : Hp) (b : Addr) (u : Z) : Prop := H b = some (.tup (u.map V.int)) ∨ H b = some (.lst (u.map V.int))
theorem Ints.same {H G : Hp} {b : Addr} {u : Z} (h : Ints H b u) (s : Same H G) : Ints G b u := h.imp (s _ _) (s _ _)
theorem Ints.sq {K : PySem.W.Frag} {H : Hp} {b : Addr} {u : Z} (h : Ints H b u) : SqL K H b (u.map V.int) ∨ SqT K H b (u.map V.int) := h.elim (fun h => .inr (SqT.of h)) fun h => .inl (SqL.of h)
def spSafe : Sp := fun vs H Q _ => ∃ (a b c : Addr) (W R : List AT) (u : Z), vs = [.ref a, .ref b, .ref c] ∧ Lots H a W ∧ Lots H b R ∧ (∀ q ∈ W, q.2.length ≤ 5) ∧ Ints H c u ∧ ∀ G, Same H G → Q (.bl (safe (W.map (·.2)) (R.map (·.2)) u)) G
theorem shaped_I (a : Z) : SeqAt.shaped (.list (a.map .int)) = true := by
  unfold SeqAt.shaped
  rw [PyData.canLay0, lay_ints, PyData.depth, dep_ints]
  decide
theorem dp_I {K : PySem.W.Frag} {H : Hp} {a : Addr} {l : Z} (h : H a = some (.lst (l.map V.int))) : Dp K H (.ref a) (.list (l.map .int)) := by
  refine .lst (SqL.of h) ?_
  clear h
  induction l with
  | nil => exact .nil
  | cons x l ih => exact .cons (.int x) ih
theorem eqv_nil (l : Z) : PyData.eqv (.list (l.map .int)) (.list []) = l.isEmpty := by
  cases l with
  | nil => rfl
  | cons x l => rfl
section
variable {P : Program} {K : PySem.W.Frag} {w : World} {base : Heap} {mg : Str → Option Value}
abbrev nDr : List Str := ["_law_source", "_law_copies_here", "_law_copy"]
theorem scDraw : FnScope nDr ["_law_source", "_law_copies_here"] (defScope sLot) := ⟨rfl, rfl, rfl, by decide +kernel, rfl, by decide +kernel, by decide +kernel⟩
theorem ok_draw {f : Addr} {fd : FuncData} (F : Fun K "_law_lot" "_law_lot" sLot f fd) (T : Cst mg) (DT : Df P w K mg base 1 "_law_take" ["_law_source", "_law_top"] spTake) : FnOk P w K mg base CX0 2 f fd ["_law_source", "_law_copies_here"] spDraw := by
  obtain ⟨gT, fdT, GT, mT, kT, bT⟩ := DT.ex
  refine F.ok scDraw (fun vs H Q E h => ?_) (fun cdv A outer s0 H vs Q E hr h => ?_)
  · obtain ⟨z, n, rfl, _⟩ := h
    rfl
  · obtain ⟨z, n, rfl, hz, n0, n5, q⟩ := h
    refine ⟨_, pss_one (ps_ret (pe_callTy (show CallR _ (.type "tuple") (rTupOf K) from call_tuple_of) (by rfl) T.ttup (by decide +kernel) (pa_cons (pe_lc (own := [("_law_copy", 2)]) (g := gName 2) (tt := _) rfl scDraw.nd (pi_range1 (by rfl) T.rng (pa_cons (pv 1) pa_nil)) (blkOk_by (own := [("_law_copy", 2)]) (N := nDr) (sc := defScope sLot) (by decide +kernel))
      (fun _ _ _ _ _ => pg_name (i := 2) scDraw.nd rfl (Or.inl rfl)) (fun _ _ _ _ _ => pts_one (pt_cmpR op_eq (pe_call GT (hr.mono (by decide)) (by rfl) mT kT bT .nil pass0 (pa_cons (pv 0) (pa_cons pe_int pa_nil))) pe_int (nomark _))) (fun _ _ _ _ _ => pv 2)) pa_nil))), ?_⟩
    obtain ⟨o, ho⟩ := hz.some
    refine ⟨_, rfl, n, rfl, by omega, by omega, fun D hD => ?_⟩
    have Dz : D ≠ z := fun e => by
      rw [e, ho] at hD
      cases hD
    refine walk_core (walk_range (lo := 0) (n := n.toNat)) (fun j F => ∃ l : Z, But z H F ∧ Src z F ∧ F D = some (.lst (l.map V.int)) ∧ l.Pairwise (· < ·) ∧ (∀ x ∈ l, 0 ≤ x ∧ x < (j : Int)) ∧ l.length ≤ j) ⟨[], But.new hD, hz.upd Dz, upd_same, .nil, (fun x hx => by cases hx), Nat.zero_le _⟩ (fun _ _ _ _ => trivial) ?_ ?_
    · rintro j y F F' hj ⟨l, bF, zF, hl, pw, bd, ll⟩ ⟨rfl, rfl⟩
      refine ⟨rfl, _, rfl, z, 2, rfl, zF, by decide, by decide, fun r G r0 r1 b2 z2 => ?_⟩
      have hl2 := b2 _ _ Dz trivial hl
      refine ⟨rfl, _, rfl, ?_⟩
      refine ite2 (fun e => ?_) fun e => ?_
      · refine ⟨_, rfl, _, hl2, small1000 (by rw [List.length_map]; omega), l ++ [0 + (j : Int)], But.sup hD (bF.trans b2), z2.upd Dz, by rw [upd_same, List.map_append]; rfl, ?_, fun x hx => ?_, ?_⟩
        · rw [List.pairwise_append]
          refine ⟨pw, List.pairwise_singleton _ _, fun x hx y hy => ?_⟩
          rw [List.mem_singleton] at hy
          have := bd x hx
          omega
        · rcases List.mem_append.mp hx with h | h
          · have := bd x h
            omega
          · rw [List.mem_singleton] at h
            omega
        · rw [List.length_append]
          show l.length + 1 ≤ j + 1
          omega
      · exact ⟨l, bF.trans b2, z2, hl2, pw, fun x hx => by have := bd x hx; omega, by omega⟩
    · rintro F ⟨l, bF, zF, hl, pw, bd, ll⟩
      refine ⟨D, _, rfl, .inl ⟨SqL.of hl, fun t ht => ?_⟩⟩
      have tz : t ≠ z := fun e => by
        obtain ⟨o2, h2⟩ := zF.some
        rw [e, h2] at ht
        cases ht
      have ft : H t = none := by
        cases c : H t with
        | none => rfl
        | some o2 =>
          rw [bF t o2 tz trivial c] at ht
          cases ht
      exact q t l _ (But.sup ft bF) (zF.upd tz) ft upd_same ⟨pw, fun x hx => by have := bd x hx; omega⟩
end
end Pl

namespace Pl
open L2 PySem PySem.Spec PyProof.Rows RZ
theorem rgZ_get {c : Int} {i : Nat} (h : i < c.toNat) : (rgZ c)[i]? = some (0 + (i : Int)) := by
  unfold rgZ
  rw [List.getElem?_map, List.getElem?_range h]
  rfl
abbrev nLA : List Str := ["_law_copies_here", "_law_size", "_law_found", "_law_copy", "_law_lot_here"]
abbrev nLS : List Str := ["_law_writes_here", "_law_reads_here", "_law_bad", "_law_write", "_law_read", "_law_copy"]
section
variable {P : Program} {K : PySem.W.Frag} {w : World} {base : Heap} {mg : Str → Option Value}
theorem scLAll : FnScope nLA ["_law_copies_here", "_law_size"] (defScope sLAll) := ⟨rfl, rfl, rfl, by decide +kernel, rfl, by decide +kernel, by decide +kernel⟩
theorem ok_lall {f : Addr} {fd : FuncData} (F : Fun K "_law_all_lots" "_law_all_lots" sLAll f fd) (T : Cst mg) : FnOk P w K mg base CX0 1 f fd ["_law_copies_here", "_law_size"] spLAll := by
  refine F.ok scLAll (fun vs H Q E h => ?_) (fun cdv A outer s0 H vs Q E hr h => ?_)
  · obtain ⟨n, k, rfl, _⟩ := h
    rfl
  · obtain ⟨n, k, rfl, n0, n5, q⟩ := h
    have hu : (A.deeper (envOfC "_law_all_lots" (defScope sLAll) s0.heap.objs.size f cdv)).units + 64 < cLine := by
      have := hr.un
      omega
    refine ⟨_, pss_cons (ps_set (i := 2) scLAll.nd rfl (Or.inl rfl) (pe_lst (pa_cons (pe_tup pa_nil) pa_nil)))
      (pss_cons (ps_for PassesOwn.never rfl (pi_range1 rfl T.rng (pa_cons (pv 0) pa_nil)) (pg_name (i := 3) scLAll.nd rfl (Or.inr rfl))
        (pss_one (ps_set (i := 2) scLAll.nd rfl (Or.inl rfl) (pe_op op_cat (pv 2) (pe_lc (own := [("_law_lot_here", 4)]) (g := gName 4) (tt := tYes) rfl scLAll.nd (pi_list (pv 2)) (blkOk_by (own := [("_law_lot_here", 4)]) (N := nLA) (sc := defScope sLAll) (by decide +kernel))
          (fun _ _ _ _ _ => pg_name (i := 4) scLAll.nd rfl (Or.inl rfl)) (fun _ _ _ _ _ => pts_nil) (fun _ _ _ _ _ => pe_op (show OpR _ (binaryOp .Add) (rCatA K) from op_catA) (pv 4) (pe_tup (pa_cons (pv 3) pa_nil))))))))
      (pss_one (ps_ret (pe_callB (show CallR _ (.builtin "sorted") (rSortL K) from cr_sortL hu) (by rfl) T.srt (by decide +kernel) (pa_cons (pe_lc (own := [("_law_lot_here", 4)]) (g := gName 4) (tt := _) rfl scLAll.nd (pi_list (pv 2)) (blkOk_by (own := [("_law_lot_here", 4)]) (N := nLA) (sc := defScope sLAll) (by decide +kernel))
          (fun _ _ _ _ _ => pg_name (i := 4) scLAll.nd rfl (Or.inl rfl)) (fun _ _ _ _ _ => pts_one (pt_cmpR op_eq (pe_callB (show CallR _ (.builtin "len") (rLenQ K) from call_len_seq) (by rfl) T.len PySem.boot_len (pa_cons (pv 4) pa_nil)) (pv 1) (nomark _))) (fun _ _ _ _ _ => pv 4)) pa_nil))))), ?_⟩
    refine ⟨by show 0 ≤ sizeLine; decide, fun t0 ht0 => ⟨by show 1 ≤ sizeLine; decide, fun p0 hp0 => ?_⟩⟩
    have sA : Same H (upd H t0 (.tup [])) := same_up ht0
    have fA : upd H t0 (.tup []) t0 = some (.tup []) := upd_same
    generalize upd H t0 (.tup []) = G0 at sA fA hp0 ⊢
    have sB : Same G0 (upd G0 p0 (.lst [.ref t0])) := same_up hp0
    have hp : upd G0 p0 (.lst [.ref t0]) p0 = some (.lst [.ref t0]) := upd_same
    have f0 := sB _ _ fA
    have s0 := sA.trans sB
    generalize upd G0 p0 (.lst [.ref t0]) = G1 at s0 hp f0 ⊢
    refine ⟨_, rfl, n, rfl, by omega, by omega, ?_⟩
    refine for_it (walk_range (lo := 0) (n := n.toNat)) (fun i σ G => ∃ d L x3, σ = [some (.int n), some (.int k), some (.ref d), x3, none] ∧ Same H G ∧ Lots G d L ∧ L.map (·.2) = subs ((rgZ n).take i))
      ⟨p0, [(t0, [])], _, rfl, s0, ⟨hp, fun q hq => by
        rw [List.mem_singleton] at hq
        rw [hq]
        exact f0⟩, rfl⟩ (fun _ _ _ _ _ => trivial) ?_ ?_
    · rintro i y σ G G' hi ⟨d, L, x3, rfl, s1, hL, eL⟩ ⟨rfl, rfl⟩
      have hx := rgZ_get hi
      have lL : L.length ≤ 32 := by
        have e := congrArg List.length eL
        rw [List.length_map, subs_len, List.length_take] at e
        rw [e]
        exact pow5 (by omega)
      have lq : ∀ q ∈ L, q.2.length ≤ 5 := fun q hq => by
        have m : q.2 ∈ subs ((rgZ n).take i) := eL ▸ List.mem_map.mpr ⟨q, hq, rfl⟩
        have := (mem_subs.mp m).length_le
        rw [List.length_take] at this
        omega
      refine ⟨_, rfl, _, rfl, d, rfl, ⟨_, SqL.of hL.1⟩, fun D hD => ?_⟩
      refine walk_core (walk_list (K := K) (a := d) (xs := refs L)) (fun j F => ∃ M : List AT, Same G' F ∧ Lots F D M ∧ M.map (·.2) = ((L.take j).map (·.2)).map (· ++ [0 + (i : Int)])) ⟨[], same_up hD, ⟨upd_same, fun q hq => by cases hq⟩, by rw [List.take_zero]; rfl⟩ (fun _ _ _ h => by
        obtain ⟨_, h, _⟩ := h
        exact SqL.of (h _ _ hL.1)) ?_ ?_
      · rintro j y F F' hj ⟨M, s2, hM, eM⟩ ⟨rfl, hy⟩
        obtain ⟨r, hr', rfl⟩ := refs_get hy
        have rL := List.mem_of_getElem? hr'
        have h5 := lq r rL
        refine ⟨rfl, _, rfl, _, rfl, by show 1 ≤ sizeLine; decide, fun t1 ht1 => ?_⟩
        have s3 := same_up (o := .tup [.int (0 + (i : Int))]) ht1
        have f3 : upd F' t1 (.tup [.int (0 + (i : Int))]) t1 = some (.tup [.int (0 + (i : Int))]) := upd_same
        refine cat_any (s3 _ _ (s2 _ _ (hL.2 r rL))) f3 (by rw [List.length_map]; show r.2.length + 1 ≤ 1000; omega) fun p F2 s4 hp2 => ?_
        have s34 := s3.trans s4
        have hA : Lots (upd F2 D (.lst (refs M ++ [.ref p]))) D (M ++ [(p, r.2 ++ [0 + (i : Int)])]) := lots_app (q := (p, r.2 ++ [0 + (i : Int)])) (hM.same s34) (by rw [List.map_append]; exact hp2)
        refine ⟨_, s34 _ _ hM.1, ?_, M ++ [(p, r.2 ++ [0 + (i : Int)])], sup hD (s2.trans s34), hA, ?_⟩
        · have e := congrArg List.length eM
          rw [List.length_map, List.length_map, List.length_map, List.length_take] at e
          exact small1000 (by rw [refs_len]; omega)
        · rw [List.map_append, eM, take_next1 hr', List.map_append, List.map_append]
          rfl
      · rintro F ⟨M, s2, hM, eM⟩
        rw [refs_len, List.take_length] at eM
        have lM : M.length = L.length := by
          have e := congrArg List.length eM
          simpa using e
        have hL2 := hL.same s2
        refine ⟨d, D, _, _, rfl, rfl, hL2.1, hM.1, Nat.le_of_lt (small1000 (by rw [refs_len, refs_len]; omega)), fun p2 hp2 => ?_⟩
        have s5 := same_up (o := .lst (refs L ++ refs M)) hp2
        refine ⟨p2, L ++ M, _, rfl, (s1.trans s2).trans s5, ⟨by rw [upd_same, refs_app], fun q hq => ?_⟩, ?_⟩
        · rcases List.mem_append.mp hq with h | h
          · exact s5 _ _ (hL2.2 q h)
          · exact s5 _ _ (hM.2 q h)
        · rw [List.map_append, eM, take_next1 hx, subs_snoc, eL]
          rfl
    · rintro σ G ⟨d, L, x3, rfl, s1, hL, eL⟩
      rw [← rgZ_len n, List.take_length] at eL
      have lL : L.length ≤ 32 := by
        have e := congrArg List.length eL
        rw [List.length_map, subs_len, rgZ_len] at e
        rw [e]
        exact pow5 (by omega)
      refine ⟨_, rfl, d, rfl, ⟨_, SqL.of hL.1⟩, fun D hD => ?_⟩
      refine walk_core (walk_list (K := K) (a := d) (xs := refs L)) (fun i F => Same G F ∧ F D = some (.lst (refs ((L.take i).filter fun q => decide ((q.2.length : Int) = k))))) ⟨same_up hD, upd_same⟩ (fun _ _ _ g => SqL.of (g.1 _ _ hL.1)) ?_ ?_
      · rintro i y F F' hi ⟨s2, h2⟩ ⟨rfl, hy⟩
        obtain ⟨r, hr', rfl⟩ := refs_get hy
        have rL := List.mem_of_getElem? hr'
        refine ⟨rfl, _, rfl, r.1, _, rfl, .inr (SqT.of (s2 _ _ (hL.2 r rL))), _, rfl, rfl, _, rfl, ?_⟩
        have fs := filt_snoc hr' (fun q : AT => decide ((q.2.length : Int) = k))
        rw [intEq, List.length_map]
        refine ite2 (fun e => ?_) fun e => ?_
        · rw [if_pos e] at fs
          refine ⟨_, rfl, _, h2, small1000 (by rw [refs_len]; exact Nat.le_trans (filt_len L i _) (by omega)), sup hD s2, ?_⟩
          rw [upd_same, fs, refs_app]
          rfl
        · rw [if_neg e, List.append_nil] at fs
          exact ⟨s2, by rw [fs]; exact h2⟩
      · rintro F ⟨s2, h2⟩
        rw [refs_len, List.take_length] at h2
        have tk : ∀ q ∈ L.filter (fun q => decide ((q.2.length : Int) = k)), F q.1 = some (.tup (q.2.map V.int)) := fun q hq => s2 _ _ (hL.2 q (List.mem_filter.mp hq).1)
        refine ⟨D, _, rfl, SqL.of h2, fun p hp => SqT.of (tk p hp), fun L' p pm hp => ?_⟩
        have s3 := same_up (o := .lst (refs L')) hp
        refine q p L' _ ((s1.trans s2).trans s3) ⟨upd_same, fun r hr => s3 _ _ (tk r (pm.mem_iff.mp hr))⟩ ?_
        refine (pm.map (·.2)).trans ?_
        unfold ofSize
        rw [← eL, List.filter_map]
        exact .refl _
theorem scLSafe : FnScope nLS ["_law_writes_here", "_law_reads_here", "_law_bad"] (defScope sLSafe) := ⟨rfl, rfl, rfl, by decide +kernel, rfl, by decide +kernel, by decide +kernel⟩
theorem ok_lsafe {f : Addr} {fd : FuncData} (F : Fun K "_law_safe" "_law_safe" sLSafe f fd) : FnOk P w K mg base CX0 1 f fd ["_law_writes_here", "_law_reads_here", "_law_bad"] spSafe := by
  refine F.ok scLSafe (fun vs H Q E h => ?_) (fun cdv A outer s0 H vs Q E hr h => ?_)
  · obtain ⟨a, b, c, W, R, u, rfl, _⟩ := h
    rfl
  · obtain ⟨a, b, c, W, R, u, rfl, hW, hR, lW, hc, q⟩ := h
    have hu : (A.deeper (envOfC "_law_safe" (defScope sLSafe) s0.heap.objs.size f cdv)).units + 64 < cLine := by
      have := hr.un
      omega
    refine ⟨_, pss_cons (ps_for PassesOwn.never rfl (pi_list (pv 0)) (pg_name (i := 3) scLSafe.nd rfl (Or.inl rfl))
        (pss_one (ps_for PassesOwn.never rfl (pi_list (pv 1)) (pg_name (i := 4) scLSafe.nd rfl (Or.inr rfl))
          (pss_one (ps_if (pt_cmpR (show OpR _ (compareOp .Eq) (rEqD K) from op_eqD hu) (pe_lc (own := [("_law_copy", 5)]) (g := gName 5) (tt := _) rfl scLSafe.nd (pi_tup (pv 3)) (blkOk_by (own := [("_law_copy", 5)]) (N := nLS) (sc := defScope sLSafe) (by decide +kernel))
              (fun _ _ _ _ _ => pg_name (i := 5) scLSafe.nd rfl (Or.inl rfl)) (fun _ _ _ _ _ => pts_one (PW.pt (pw_and (pt_cmpR (show OpR _ (compareOp .In) (rIn K false) from op_in_seq) (pv 5) (pv 4) (by rfl)) (pw_and1 (pt_cmpR (show OpR _ (compareOp .NotIn) (rIn K true) from op_notIn_seq) (pv 5) (pv 2) (by rfl)))))) (fun _ _ _ _ _ => pv 5)) (pe_lst pa_nil) (nomark _)) (pss_one (ps_ret pe_bl)) pss_nil)))))
      (pss_one (ps_ret pe_bl)), ?_⟩
    refine ⟨_, rfl, a, rfl, ⟨_, SqL.of hW.1⟩, ?_⟩
    refine for_it (walk_list (K := K) (a := a) (xs := refs W)) (fun i σ G => (∃ x3 x4, σ = [some (.ref a), some (.ref b), some (.ref c), x3, x4, none]) ∧ Same H G ∧ safe ((W.take i).map (·.2)) (R.map (·.2)) u = true) ⟨⟨_, _, rfl⟩, fun _ _ e => e, rfl⟩ (fun i σ G _ h => SqL.of (h.2.1 _ _ hW.1)) ?_ ?_
    · rintro i y σ G G' hi ⟨⟨x3, x4, rfl⟩, s1, ok⟩ ⟨rfl, hy⟩
      obtain ⟨wq, hwq, rfl⟩ := refs_get hy
      have wW := List.mem_of_getElem? hwq
      refine ⟨_, rfl, b, rfl, ⟨_, SqL.of (s1 _ _ hR.1)⟩, ?_⟩
      refine for_it (walk_list (K := K) (a := b) (xs := refs R)) (fun j σ F => (∃ x4, σ = [some (.ref a), some (.ref b), some (.ref c), some (.ref wq.1), x4, none]) ∧ Same H F ∧ ((R.take j).all fun r => wq.2.any fun c => has r.2 c && !has u c) = true) ⟨⟨_, rfl⟩, s1, rfl⟩ (fun i σ G _ h => SqL.of (h.2.1 _ _ hR.1)) ?_ ?_
      · rintro j y σ F F' hj ⟨⟨x4, rfl⟩, s2, okj⟩ ⟨rfl, hy⟩
        obtain ⟨rq, hrq, rfl⟩ := refs_get hy
        have rR := List.mem_of_getElem? hrq
        refine ⟨_, rfl, wq.1, rfl, ⟨_, SqT.of (s2 _ _ (hW.2 wq wW))⟩, fun D hD => ?_⟩
        refine walk_core (walk_tup (K := K) (a := wq.1) (xs := wq.2.map V.int)) (fun k F2 => Same F' F2 ∧ F2 D = some (.lst (((wq.2.take k).filter fun c => has rq.2 c && !has u c).map V.int))) ⟨same_up hD, upd_same⟩ (fun _ _ _ g => SqT.of (g.1 _ _ (s2 _ _ (hW.2 wq wW)))) ?_ ?_
        · rintro k y F2 F3 hk ⟨s3, h3⟩ ⟨rfl, hy⟩
          obtain ⟨x, hx, rfl⟩ := zV_get hy
          have fs := filt_snoc hx (fun c => has rq.2 c && !has u c)
          refine ⟨rfl, _, rfl, _, rfl, rq.1, _, rfl, .inr (SqT.of (s3 _ _ (s2 _ _ (hR.2 rq rR)))), rfl, flatZ rq.2, _, rfl, ?_⟩
          have e1 : inV (.int x) (rq.2.map V.int) = has rq.2 x := inZ x rq.2
          have e2 : (!inV (.int x) (u.map V.int)) = !has u x := by rw [inZ]
          refine ite2 (fun e => ?_) fun e => ?_
          · have e : has rq.2 x = true := e1 ▸ e
            refine ⟨_, rfl, _, rfl, c, _, rfl, (hc.same (s2.trans s3)).sq, rfl, flatZ u, _, rfl, ?_⟩
            rw [e, Bool.true_and] at fs
            refine ite2 (fun e3 => ?_) fun e3 => ?_
            · have e3 : (!has u x) = true := e2 ▸ e3
              rw [if_pos e3] at fs
              refine ⟨_, rfl, _, h3, small1000 (by rw [List.length_map]; exact Nat.le_trans (filt_len wq.2 k _) (by have := lW wq wW; omega)), sup hD s3, ?_⟩
              rw [upd_same, fs, List.map_append]
              rfl
            · have e3 : ¬ (!has u x) = true := e2 ▸ e3
              rw [if_neg e3, List.append_nil] at fs
              exact ⟨s3, by rw [fs]; exact h3⟩
          · have e : has rq.2 x = false := Bool.eq_false_iff.mpr (e1 ▸ e)
            rw [e, Bool.false_and, if_neg (by decide), List.append_nil] at fs
            exact ⟨s3, by rw [fs]; exact h3⟩
        · rintro F2 ⟨s3, h3⟩
          rw [List.length_map, List.take_length] at h3
          refine ⟨by show 0 ≤ sizeLine; decide, fun l0 hl0 => ?_⟩
          have s4 := same_up (o := .lst []) hl0
          refine ⟨.list ((wq.2.filter fun c => has rq.2 c && !has u c).map .int), .list [], dp_I (s4 _ _ h3), .lst (SqL.of upd_same) .nil, shaped_I _, by decide, ?_⟩
          have s24 := (s2.trans s3).trans s4
          have ev : ((wq.2.filter fun c => has rq.2 c && !has u c)).isEmpty = !(wq.2.any fun c => has rq.2 c && !has u c) := by
            rw [Bool.eq_iff_iff, List.isEmpty_iff, List.filter_eq_nil_iff, Bool.not_eq_true', List.any_eq_false]
          refine ⟨_, rfl, ?_⟩
          rw [eqv_nil, ev]
          refine ite2 (fun e => ?_) fun e => ?_
          · have sf : safe (W.map (·.2)) (R.map (·.2)) u = false := by
              by_cases t : safe (W.map (·.2)) (R.map (·.2)) u = true
              · have h1 := List.all_eq_true.mp (List.all_eq_true.mp t wq.2 (List.mem_map.mpr ⟨wq, wW, rfl⟩)) rq.2 (List.mem_map.mpr ⟨rq, rR, rfl⟩)
                have h1 : (wq.2.any fun c => has rq.2 c && !has u c) = true := h1
                rw [h1] at e
                cases e
              · exact Bool.eq_false_iff.mpr t
            have := q _ s24
            rw [sf] at this
            exact this
          · refine ⟨⟨_, rfl⟩, s24, ?_⟩
            rw [take_next1 hrq, List.all_append, okj, List.all_cons, List.all_nil, Bool.and_true, Bool.true_and]
            simpa using e
      · rintro σ F ⟨⟨x4, rfl⟩, s2, okj⟩
        rw [refs_len, List.take_length] at okj
        refine ⟨⟨_, _, rfl⟩, s2, ?_⟩
        unfold safe at ok ⊢
        rw [take_next1 hwq, List.map_append, List.all_append, ok, Bool.true_and, List.map_singleton, List.all_cons, List.all_nil, Bool.and_true, List.all_map]
        exact okj
    · rintro σ G ⟨⟨x3, x4, rfl⟩, s1, ok⟩
      rw [refs_len, List.take_length] at ok
      have := q _ s1
      rw [ok] at this
      exact this
end
end Pl

namespace Pl
open L2 PySem PySem.Spec PyProof.Rows RZ
theorem eqv_Znil (ms : List Z) : PyData.eqv (datZs ms) (.list []) = ms.isEmpty := by
  cases ms with
  | nil => rfl
  | cons x l => rfl
def spLLeast (Tb : TbL) : Sp := fun vs H Q _ => ∃ (a b c : Addr) (W R : List AT) (u : Z), vs = [.ref a, .ref b, .ref c] ∧ Lots H a W ∧ Lots H b R ∧ (∀ q ∈ W, q.2.length ≤ 5) ∧ H c = some (.tup (u.map V.int)) ∧ Lot 5 u ∧ LamX.Tabs Tb H ∧
  ∀ p L G, LamX.ExtN H G → LamX.Tabs Tb G → Lots G p L → L.map (·.2) = leastS (safe (W.map (·.2)) (R.map (·.2))) u → Q (.ref p) G
abbrev psLL : List Str := ["_law_writes_here", "_law_reads_here", "_law_bad"]
abbrev nLL : List Str := ["_law_writes_here", "_law_reads_here", "_law_bad", "_law_found", "_law_bars", "_law_left", "_law_within", "_law_copy", "_law_less"]
abbrev scW : Scope := { kind := .function, names := [(".0", .local), ("_law_less", .local), ("_law_bars", .cell)], isGenerator := false, isCoroutine := false }
section
variable {P : Program} {K : PySem.W.Frag} {w : World} {base : Heap} {mg : Str → Option Value} {Tb : TbL}
theorem scLLeast : FnScope nLL psLL (defScope sLLeast) := ⟨rfl, rfl, rfl, by decide +kernel, rfl, by decide +kernel, by decide +kernel⟩
theorem ok_lleast {f : Addr} {fd : FuncData} (F : Fun K "_law_least" "_law_least" sLLeast f fd) (D1 : Df P w K mg base 3 "_law_parts" ["_law_lot_here"] (spPartsT Tb)) (D2 : Df P w K mg base 1 "_law_safe" psLL spSafe) : FnOk P w K mg base CX0 4 f fd psLL (spLLeast Tb) := by
  obtain ⟨e1, fd1, G1, m1, k1, b1⟩ := D1.ex
  obtain ⟨e2, fd2, G2, m2, k2, b2⟩ := D2.ex
  refine F.ok scLLeast (fun vs H Q E h => ?_) (fun cdv A outer s0 H vs Q E hr h => ?_)
  · obtain ⟨a, b, c, W, R, u, rfl, _⟩ := h
    rfl
  · obtain ⟨a, b, c, W, R, u, rfl, hW, hR, lW, hc, fu, hT, q⟩ := h
    have hu : (A.deeper (envOfC "_law_least" (defScope sLLeast) s0.heap.objs.size f cdv)).units + 64 < cLine := hr.units
    refine ⟨_, pss_cons (ps_set (i := 3) scLLeast.nd rfl (Or.inl rfl) (pe_lst pa_nil))
      (pss_cons (ps_for PassesOwn.never rfl (pi_list (pe_call G1 (hr.mono (by decide)) (by rfl) m1 k1 b1 .nil pass0 (pa_cons (pv 2) pa_nil))) (pg_name (i := 4) scLLeast.nd rfl (Or.inr rfl))
        (pss_cons (ps_setLc (i := 5) (own := [("_law_copy", 7)]) (g := gName 7) (tt := _) rfl scLLeast.nd rfl rfl (sw_true rfl rfl rfl (by decide +kernel)) (pi_tup (pv 2)) (blkOk_by (own := [("_law_copy", 7)]) (N := nLL) (sc := defScope sLLeast) (by decide +kernel))
            (fun _ _ _ _ _ => pg_name (i := 7) scLLeast.nd rfl (Or.inl rfl)) (fun _ _ _ _ _ => pts_one (pt_cmpR (show OpR _ (compareOp .NotIn) (rIn K true) from op_notIn_seq) (pv 7) (pv 4) (by rfl))) (fun _ _ _ _ _ => pv 7))
        (pss_cons (ps_setLc (i := 6) (own := [("_law_less", 8)]) (g := gName 8) (tt := _) rfl scLLeast.nd rfl rfl (sw_true rfl rfl rfl (by decide +kernel)) (pi_list (pv 3)) (blkOk_by (own := [("_law_less", 8)]) (N := nLL) (sc := defScope sLLeast) (by decide +kernel))
            (fun _ _ _ _ _ => pg_name (i := 8) scLLeast.nd rfl (Or.inl rfl))
            (fun _ _ _ _ _ => pts_one (pt_cmpR (show OpR _ (compareOp .Eq) (rEqD K) from op_eqD hu) (pe_lc (own := [("_law_copy", 7)]) (g := gName 7) (tt := _) rfl scLLeast.nd (show PI _ _ _ (iTup K (tVar 8)) from pi_tup (pv 8)) (blkOk_by (own := [("_law_copy", 7)]) (N := nLL) (sc := scW) (by decide +kernel))
              (fun _ _ _ _ _ => pg_name (i := 7) scLLeast.nd rfl (Or.inl rfl)) (fun _ _ _ _ _ => pts_one (pt_cmpR (show OpR _ (compareOp .NotIn) (rIn K true) from op_notIn_seq) (pv 7) (pv 4) (by rfl))) (fun _ _ _ _ _ => pv 7)) (pe_lst pa_nil) (nomark _)))
            (fun _ _ _ _ _ => pv 8))
        (pss_one (ps_if (PW.pt (pw_and (pt_cmpR (show OpR _ (compareOp .Eq) (rEqD K) from op_eqD hu) (pv 6) (pe_lst pa_nil) (nomark _)) (pw_and1 (pt_val (pe_call G2 (hr.mono (by decide)) (by rfl) m2 k2 b2 .nil pass0 (pa_cons (pv 0) (pa_cons (pv 1) (pa_cons (pv 5) pa_nil))))))))
          (pss_one (ps_expr (pe_bm PySem.F.plainAttrs_list PySem.F.slot_list_append PySem.F.type_list_append mt_append (pv 3) (pa_cons (pv 4) pa_nil)))) pss_nil)))))
      (pss_one (ps_ret (pv 3)))), ?_⟩
    refine ⟨by show 0 ≤ sizeLine; decide, fun pl hpl => ?_⟩
    have s2 := same_up (o := .lst []) hpl
    have fl : upd H pl (.lst []) pl = some (.lst []) := upd_same
    have nl : ∀ b o, H b = some o → (∀ ps, o ≠ .tbl ps) → b ≠ pl := fun b o hb _ => ne_of_none hb hpl
    generalize upd H pl (.lst []) = Gb at s2 fl ⊢
    refine ⟨_, rfl, c, u, rfl, s2 _ _ hc, fu.len, hT.ext s2, fun pp PL Gc eN Tc hPL ePL => ?_⟩
    have lPL : PL.length = 2 ^ u.length := by
      have e := congrArg List.length ePL
      rw [List.length_map, (parts_perm u).length_eq, subs_len] at e
      exact e
    have p32 := pow5 fu.len
    have lz : pl ≠ pp := fun z => by
      have h1 := eN _ _ fl fun _ z => by cases z
      rw [z, hPL.1] at h1
      have h2 := congrArg List.length (HO.lst.inj (Option.some.inj h1))
      rw [refs_len, lPL] at h2
      have h3 : 0 < 2 ^ u.length := Nat.two_pow_pos _
      have h4 : 2 ^ u.length = 0 := h2
      omega
    have fP : ∀ r ∈ PL, r.2.Sublist u := fun r hr => mem_parts.mp (ePL ▸ List.mem_map.mpr ⟨r, hr, rfl⟩)
    have na : a ≠ pl := nl _ _ hW.1 fun _ z => by cases z
    have nb : b ≠ pl := nl _ _ hR.1 fun _ z => by cases z
    refine ⟨pp, rfl, ⟨_, SqL.of hPL.1⟩, ?_⟩
    generalize hS : safe (W.map (·.2)) (R.map (·.2)) = S at q
    have e0 := (LamX.ExtN.of s2).trans eN
    refine for_it (walk_list (K := K) (a := pp) (xs := refs PL)) (fun i σ G => ∃ x4 x5 x6 acc, σ = [some (.ref a), some (.ref b), some (.ref c), some (.ref pl), x4, x5, x6, none, none] ∧ LamX.ExtN H G ∧ LamX.Tabs Tb G ∧ Lots G a W ∧ Lots G b R ∧ Lots G pp PL ∧ G c = some (.tup (u.map V.int)) ∧ Lots G pl acc ∧ acc.map (·.2) = ((PL.map (·.2)).take i).foldl (stepB S u) [] ∧ acc.length ≤ i ∧ ∀ r ∈ acc, r.2.length ≤ 5)
      ⟨_, _, _, [], rfl, e0, Tc, hW.ext e0, hR.ext e0, hPL, e0 _ _ hc (fun _ z => by cases z), ⟨eN _ _ fl (fun _ z => by cases z), fun r hr => by cases hr⟩, rfl, Nat.le_refl _, fun r hr => by cases hr⟩ (fun i σ G _ h => by
        obtain ⟨_, _, _, _, _, _, _, _, _, h, _⟩ := h
        exact SqL.of h.1) ?_ ?_
    · rintro i y σ G G' hi ⟨x4, x5, x6, acc, rfl, eG, tG, hW1, hR1, hP1, hc1, hA, eA, lA, fA⟩ ⟨rfl, hy⟩
      rw [refs_len] at hi
      obtain ⟨r, hr', rfl⟩ := refs_get hy
      have rP := List.mem_of_getElem? hr'
      have r5 : r.2.length ≤ 5 := Nat.le_trans (fP r rP).length_le fu.len
      have eT : ((PL.map (·.2)).take (i + 1)).foldl (stepB S u) [] = stepB S u (((PL.map (·.2)).take i).foldl (stepB S u) []) r.2 := by
        rw [take_next1 (x := r.2) (by rw [List.getElem?_map, hr']; rfl), List.foldl_append]
        rfl
      refine ⟨_, rfl, c, rfl, ⟨_, SqT.of hc1⟩, fun D hD => ?_⟩
      refine walk_core (walk_tup (K := K) (a := c) (xs := u.map V.int)) (fun j F => Same G' F ∧ F D = some (.lst (((u.take j).filter fun x => !has r.2 x).map V.int))) ⟨same_up hD, upd_same⟩ (fun _ _ _ g => SqT.of (g.1 _ _ hc1)) ?_ ?_
      · rintro j y F F' hj ⟨s3, h3⟩ ⟨rfl, hy⟩
        obtain ⟨x, hx, rfl⟩ := zV_get hy
        refine ⟨rfl, _, rfl, _, rfl, r.1, _, rfl, .inr (SqT.of (s3 _ _ (hP1.2 r rP))), rfl, flatZ r.2, _, rfl, ?_⟩
        have ei : (!inV (.int x) (r.2.map V.int)) = !has r.2 x := by rw [inZ]
        have fs := filt_snoc hx (fun x => !has r.2 x)
        refine ite2 (fun e => ?_) fun e => ?_
        · have e : (!has r.2 x) = true := ei ▸ e
          rw [if_pos e] at fs
          refine ⟨_, rfl, _, h3, small1000 (by rw [List.length_map]; exact Nat.le_trans (filt_len u j _) (by have := fu.len; omega)), sup hD s3, ?_⟩
          rw [upd_same, fs, List.map_append]
          rfl
        · have e : ¬ (!has r.2 x) = true := ei ▸ e
          rw [if_neg e, List.append_nil] at fs
          exact ⟨s3, by rw [fs]; exact h3⟩
      · rintro F ⟨s3, h3⟩
        rw [List.length_map, List.take_length] at h3
        have hwo : (u.filter fun x => !has r.2 x) = wo u r.2 := rfl
        rw [hwo] at h3
        refine ⟨_, rfl, pl, rfl, ⟨_, SqL.of (s3 _ _ hA.1)⟩, fun D2 hD2 => ?_⟩
        have hA3 := hA.same s3
        refine walk_core (walk_list (K := K) (a := pl) (xs := refs acc)) (fun j F3 => Same F F3 ∧ F3 D2 = some (.lst (refs ((acc.take j).filter fun l => within_ l.2 r.2)))) ⟨same_up hD2, upd_same⟩ (fun _ _ _ g => SqL.of (g.1 _ _ hA3.1)) ?_ ?_
        · rintro j y F3 F4 hj ⟨s6, h6⟩ ⟨rfl, hy⟩
          obtain ⟨l, hl', rfl⟩ := refs_get hy
          have lA' := List.mem_of_getElem? hl'
          have l5' := fA l lA'
          have fsl := filt_snoc hl' (fun l : AT => within_ l.2 r.2)
          have hl1 := s6 _ _ (hA3.2 l lA')
          have hr1 := s6 _ _ (s3 _ _ (hP1.2 r rP))
          refine ⟨rfl, _, rfl, l.1, rfl, ⟨_, SqT.of hl1⟩, fun D3 hD3 => ?_⟩
          refine walk_core (walk_tup (K := K) (a := l.1) (xs := l.2.map V.int)) (fun k F5 => Same F4 F5 ∧ F5 D3 = some (.lst (((l.2.take k).filter fun x => !has r.2 x).map V.int))) ⟨same_up hD3, upd_same⟩ (fun _ _ _ g => SqT.of (g.1 _ _ hl1)) ?_ ?_
          · rintro k y F5 F6 hk ⟨s7, h7⟩ ⟨rfl, hy⟩
            obtain ⟨x, hx, rfl⟩ := zV_get hy
            refine ⟨rfl, _, rfl, _, rfl, r.1, _, rfl, .inr (SqT.of (s7 _ _ hr1)), rfl, flatZ r.2, _, rfl, ?_⟩
            have ei : (!inV (.int x) (r.2.map V.int)) = !has r.2 x := by rw [inZ]
            have fs := filt_snoc hx (fun x => !has r.2 x)
            refine ite2 (fun e => ?_) fun e => ?_
            · have e : (!has r.2 x) = true := ei ▸ e
              rw [if_pos e] at fs
              refine ⟨_, rfl, _, h7, small1000 (by rw [List.length_map]; exact Nat.le_trans (filt_len l.2 k _) (by omega)), sup hD3 s7, ?_⟩
              rw [upd_same, fs, List.map_append]
              rfl
            · have e : ¬ (!has r.2 x) = true := ei ▸ e
              rw [if_neg e, List.append_nil] at fs
              exact ⟨s7, by rw [fs]; exact h7⟩
          · rintro F5 ⟨s7, h7⟩
            rw [List.length_map, List.take_length] at h7
            refine ⟨by show 0 ≤ sizeLine; decide, fun l0 hl0 => ?_⟩
            have s8 := same_up (o := .lst []) hl0
            refine ⟨.list ((wo l.2 r.2).map .int), .list [], dp_I (s8 _ _ h7), .lst (SqL.of upd_same) .nil, shaped_I _, by decide, ⟨_, rfl, ?_⟩⟩
            have s78 := s7.trans s8
            have ev : (wo l.2 r.2).isEmpty = within_ l.2 r.2 := by
              rw [Bool.eq_iff_iff, List.isEmpty_iff]
              exact within_wo
            rw [eqv_nil, ev]
            refine ite2 (fun e => ?_) fun e => ?_
            · rw [if_pos e] at fsl
              refine ⟨_, rfl, _, s78 _ _ h6, small1000 (by rw [refs_len]; exact Nat.le_trans (filt_len acc j _) (by omega)), sup hD2 (s6.trans s78), ?_⟩
              rw [upd_same, fsl, refs_app]
              rfl
            · rw [if_neg e, List.append_nil] at fsl
              exact ⟨s6.trans s78, by rw [fsl]; exact s78 _ _ h6⟩
        · rintro F3 ⟨s6, h6⟩
          rw [refs_len, List.take_length] at h6
          have s36 := s3.trans s6
          have hM : Lots F3 D2 (acc.filter fun l => within_ l.2 r.2) := ⟨h6, fun q hq => s36 _ _ (hA.2 q (List.mem_filter.mp hq).1)⟩
          refine ⟨_, rfl, by show 0 ≤ sizeLine; decide, fun l0 hl0 => ?_⟩
          have s8 := same_up (o := .lst []) hl0
          refine ⟨datZs ((acc.filter fun l => within_ l.2 r.2).map (·.2)), .list [], dp_Zs (hM.same s8), .lst (SqL.of upd_same) .nil, shaped_Zs _, by decide, ⟨_, rfl, ?_⟩⟩
          have s38 := s36.trans s8
          have fD := s8 _ _ (s6 _ _ h3)
          generalize upd F3 l0 (.lst []) = F7 at s38 fD ⊢
          have ev : ((acc.filter fun l => within_ l.2 r.2).map (·.2)).isEmpty = !(acc.map (·.2)).any (fun l => within_ l r.2) := by
            rw [Bool.eq_iff_iff, List.isEmpty_iff, List.map_eq_nil_iff, List.filter_eq_nil_iff, Bool.not_eq_true', List.any_eq_false]
            constructor
            · intro h x hx
              obtain ⟨q, hq, rfl⟩ := List.mem_map.mp hx
              exact h q hq
            · intro h q hq
              exact h q.2 (List.mem_map.mpr ⟨q, hq, rfl⟩)
          rw [eqv_Znil, ev]
          have same_acc : ∀ (F : Hp), Same G' F → cnd S u (acc.map (·.2)) r.2 = false → ∃ x4 x5 x6 acc', [some (.ref a), some (.ref b), some (.ref c), some (.ref pl), some (.ref r.1), some (.ref D), some (.ref D2), none, none] = ([some (.ref a), some (.ref b), some (.ref c), some (.ref pl), x4, x5, x6, none, none] : L2.St) ∧ LamX.ExtN H F ∧ LamX.Tabs Tb F ∧ Lots F a W ∧ Lots F b R ∧ Lots F pp PL ∧ F c = some (.tup (u.map V.int)) ∧ Lots F pl acc' ∧ acc'.map (·.2) = ((PL.map (·.2)).take (i + 1)).foldl (stepB S u) [] ∧ acc'.length ≤ i + 1 ∧ ∀ r ∈ acc', r.2.length ≤ 5 := fun F s hc' => by
            refine ⟨_, _, _, acc, rfl, eG.trans (LamX.ExtN.of s), tG.ext s, hW1.same s, hR1.same s, hP1.same s, s _ _ hc1, hA.same s, ?_, by omega, fA⟩
            rw [eT, ← eA]
            unfold stepB
            rw [hc']
            rfl
          refine ite2 (fun e => ?_) fun e => ?_
          · have e3 : (acc.map (·.2)).any (fun l => within_ l r.2) = false := by simpa using e
            refine ⟨_, rfl, _, rfl, _, rfl, a, b, D, W, R, wo u r.2, rfl, hW1.same s38, hR1.same s38, lW, .inr fD, fun F8 s9 => ⟨_, rfl, ?_⟩⟩
            have s39 := s38.trans s9
            rw [hS]
            refine ite2 (fun e2 => ?_) fun e2 => ?_
            · have cy : cnd S u (acc.map (·.2)) r.2 = true := by
                unfold cnd
                rw [e3, e2]
                rfl
              have hA6 := hA.same s39
              refine ⟨_, rfl, .inl ⟨rfl, _, SqL.of hA6.1⟩, _, rfl, pl, _, _, rfl, rfl, hA6.1, small1000 (by rw [refs_len]; omega), ?_⟩
              refine ⟨_, _, _, acc ++ [r], rfl, ext_upd (eG.trans (LamX.ExtN.of s39)) nl, tabs_upd (tG.ext s39) hA6.1, lots_but (hW1.same s39) hA6.1 na, lots_but (hR1.same s39) hA6.1 nb, lots_but (hP1.same s39) hA6.1 (Ne.symm lz), tup_but (s39 _ _ hc1) hA6.1, lots_app hA6 (s39 _ _ (hP1.2 r rP)), ?_, ?_, fun z hz => ?_⟩
              · rw [List.map_append, eT, ← eA]
                unfold stepB
                rw [if_pos cy]
                rfl
              · rw [List.length_append]
                show acc.length + 1 ≤ i + 1
                omega
              · rcases List.mem_append.mp hz with h | h
                · exact fA z h
                · rw [List.mem_singleton] at h
                  rw [h]
                  exact r5
            · refine same_acc _ s39 ?_
              unfold cnd
              rw [show S (wo u r.2) = false from by simpa using e2, Bool.false_and]
          · have e3 : (acc.map (·.2)).any (fun l => within_ l r.2) = true := by simpa using e
            refine same_acc _ s38 ?_
            unfold cnd
            rw [e3, Bool.not_true, Bool.and_false]
    · rintro σ G ⟨x4, x5, x6, acc, rfl, eG, tG, hW1, hR1, hP1, hc1, hA, eA, lA, fA⟩
      refine ⟨_, rfl, q pl acc G eG tG hA ?_⟩
      rw [eA, refs_len, ← List.length_map (f := (·.2)) (as := PL), List.take_length, ePL]
      rfl
end
end Pl

namespace Pl
open L2 PySem PySem.Spec PyProof.Rows RZ PySem.W
/-! ### sorted(a tuple of ints) -/
section
variable {X : Cx}
def rSortTI : List V → Hp → VK → Prop := fun xs H Q => ∃ (a : Addr) (ns : Z), xs = [.ref a] ∧ H a = some (.tup (ns.map V.int)) ∧ ∀ p (ms : Z), ms.Perm ns → ms.Pairwise (· ≤ ·) → H p = none → Q (.ref p) (upd H p (.lst (ms.map V.int)))
theorem each_ints : ∀ {ns : Z} {us : List Value}, Vals (ns.map V.int) us → EachIs (fun (u : Value) (n : Int) => RelV (V.int n) u) us ns
  | [], _, .nil => .nil
  | _ :: _, _, .cons r t => .cons r (each_ints t)
theorem ints_each : ∀ {ns : Z} {us : List Value}, EachIs (fun (u : Value) (n : Int) => RelV (V.int n) u) us ns → Vals (ns.map V.int) us
  | _, _, .nil => .nil
  | _, _, .cons r t => .cons r (ints_each t)
theorem cr_sortTI (hu : X.A.units + 64 < cLine) : CallR X (.builtin "sorted") rSortTI := by
  intro pins s σ H xs us Q I r h; skip
  obtain ⟨a, ns, rfl, ha, q⟩ := h
  obtain rfl := Vals.ref1 r
  obtain ⟨its, rv, ht, hz⟩ := I.tuple (SqT.of ha : SqT X.K H a (ns.map V.int))
  have e := each_ints rv
  have er : EachIs (fun (v : Value) (n : Int) => ∃ as, Reads s.heap v (.int n) as) its ns := e.mono fun v n ⟨t, hv⟩ => ⟨[], by rw [hv]; exact .int n t⟩
  have hz' : ns.length ≤ sizeLine := by
    rw [List.length_map] at hz
    exact hz
  refine tup_sorted_data (enc := fun n : Int => .int n) ht e er (AllAlike.of fun _ _ => by simp [alike]) (Sortable.others fun _ => ⟨(fun z => by cases z), fun _ z => by cases z⟩) hz' (fun b _ => ?_) fun out lo eo => ?_
  · have hd : (PyData.int b).depth = 0 := by simp [PyData.depth]
    omega
  · obtain ⟨ep, he⟩ := PyProof.Rows.sortedAll_at s.heap its (List.toArray out)
    have pm := List.mergeSort_perm ns (dataLe false fun n : Int => .int n)
    have pw : (ns.mergeSort (dataLe false fun n : Int => .int n)).Pairwise (· ≤ ·) := by
      rw [show dataLe false (fun n : Int => PyData.int n) = fun a b => decide (a ≤ b) from dataLe_int fun n => n]
      refine (List.pairwise_mergeSort (fun a b c h1 h2 => ?_) (fun a b => ?_) ns).imp fun h => of_decide_eq_true h
      · exact decide_eq_true (Int.le_trans (of_decide_eq_true h1) (of_decide_eq_true h2))
      · rw [Bool.or_eq_true, decide_eq_true_eq, decide_eq_true_eq]
        omega
    have hlen : ((ns.mergeSort (dataLe false fun n : Int => .int n)).map V.int).length ≤ sizeLine := by
      rw [List.length_map, pm.length_eq]
      exact hz'
    exact ⟨.ref _, upd H (s.heap.objs.size + 1) (.lst ((ns.mergeSort (dataLe false fun n : Int => .int n)).map V.int)), I.laid (t' := s.toks) (fun _ _ => PyProof.Rows.sortedAll_old) (Nat.le_succ _) ⟨hlen, out, ep, ints_each eo, he⟩, rfl, q _ _ pm pw (I.hok.fresh (Nat.le_succ _))⟩
end
/-! ### lots that are right -/
theorem tzl_lots {K : PySem.W.Frag} {H : Hp} : ∀ {L : List AT}, (∀ q ∈ L, H q.1 = some (.tup (q.2.map V.int))) → (∀ q ∈ L, Lot 5 q.2) → TzL K H (refs L) (L.map fun q => some (q.2.map PyData.int))
  | [], _, _ => .nil
  | q :: L, h, f => .cons (Tz.lot (h q List.mem_cons_self) (by have := (f q List.mem_cons_self).len; omega)) (tzl_lots (fun r hr => h r (List.mem_cons_of_mem _ hr)) fun r hr => f r (List.mem_cons_of_mem _ hr))
theorem bad_none {L : List AT} (f : ∀ q ∈ L, Lot 5 q.2) : badW (some (L.map fun q => some (q.2.map PyData.int))) = none := by
  show (badAt _ 0).map V.int = none
  rw [badAt_none fun k hk o ho => ?_]
  · rfl
  · rw [List.getElem?_map] at ho
    cases e : L[k]? with
    | none =>
      rw [e] at ho
      cases ho
    | some q =>
      rw [e] at ho
      cases ho
      exact okT_lot (f q (List.mem_of_getElem? e))
theorem chk_lots {K : PySem.W.Frag} {C : Addr} {H : Hp} {E : XK} {a : Addr} {L : List AT} {N : Prop} (h : LotsB H a L) (f : ∀ q ∈ L, Lot 5 q.2) (n : N) : Chk K C H E (.ref a) N := by
  refine ⟨some (L.map fun q => some (q.2.map PyData.int)), ?_, fun e he => ?_, fun _ => n⟩
  · rcases h.1 with h1 | h1
    · exact .lst h1 (tzl_lots h.2 f)
    · exact .tup h1 (tzl_lots h.2 f)
  · rw [bad_none f] at he
    cases he
theorem chkT_lots {K : PySem.W.Frag} {C : Addr} {H : Hp} {E : XK} {a b c : Addr} {W R : List AT} {u : Z} {g : Prop} (hW : LotsB H a W) (fW : ∀ q ∈ W, Lot 5 q.2) (hR : LotsB H b R) (fR : ∀ q ∈ R, Lot 5 q.2) (hc : H c = some (.tup (u.map V.int))) (fu : Lot 5 u) (h : g) : ChkT K C (.ref a) (.ref b) (.ref c) H E g :=
  chk_lots hW fW (chk_lots hR fR ⟨_, Tz.lot hc (by have := fu.len; omega), (fun no => by rw [okT_lot fu] at no; cases no), fun _ => h⟩)
def spRight (Tb : TbL) : Sp := fun vs H Q _ => ∃ (a b c : Addr) (W R : List AT) (u : Z), vs = [.ref a, .ref b, .ref c] ∧ Lots H a W ∧ Lots H b R ∧ W.length ≤ 10 ∧ R.length ≤ 10 ∧ (∀ q ∈ W, Lot 5 q.2) ∧ (∀ q ∈ R, Lot 5 q.2) ∧ H c = some (.tup (u.map V.int)) ∧ Lot 5 u ∧ LamX.Tabs Tb H ∧ ∀ G, LamX.ExtN H G → LamX.Tabs Tb G → Q (.bl true) G
abbrev nRi : List Str := ["_law_writes_here", "_law_reads_here", "_law_bad", "_law_told", "_law_bars", "_law_left", "_law_copy"]
/-- without the bars but with one of them -/
theorem back_lot {u b ms : Z} {c : Int} (fu : Lot 5 u) (hb : b.Sublist u) (hc : c ∈ b) (pm : ms.Perm (wo u b ++ [c])) (pw : ms.Pairwise (· ≤ ·)) : Lot 5 ms ∧ ∀ x, x ∈ ms ↔ x ∈ wo u (b.filter fun x => decide (x ≠ c)) := by
  have nd : (wo u b ++ [c]).Nodup := by
    rw [List.nodup_append]
    refine ⟨(fu.1.sublist (wo_sub u b)).imp fun h => by omega, by simp, fun x hx y hy e => ?_⟩
    rw [List.mem_singleton] at hy
    subst hy
    subst e
    have := (List.mem_filter.mp hx).2
    rw [has_iff.mpr hc] at this
    cases this
  have nm : ms.Nodup := pm.nodup_iff.mpr nd
  have mem : ∀ x, x ∈ ms ↔ x ∈ wo u b ∨ x = c := fun x => by rw [pm.mem_iff, List.mem_append, List.mem_singleton]
  refine ⟨⟨(List.pairwise_and_iff.mpr ⟨pw, nm⟩).imp fun ⟨h1, h2⟩ => by omega, fun x hx => ?_⟩, fun x => ?_⟩
  · rcases (mem x).mp hx with h | h
    · exact fu.2 x ((wo_sub u b).subset h)
    · rw [h]
      exact fu.2 c (hb.subset hc)
  · rw [mem]
    unfold wo
    rw [List.mem_filter, List.mem_filter]
    have h1 : ∀ l : Z, ((!has l x) = true) ↔ x ∉ l := fun l => by
      rw [Bool.not_eq_true', ← Bool.not_eq_true, has_iff]
    rw [h1, h1, List.mem_filter]
    constructor
    · rintro (⟨h, n⟩ | h)
      · exact ⟨h, fun z => n z.1⟩
      · subst h
        exact ⟨hb.subset hc, fun z => by have := of_decide_eq_true z.2; exact this rfl⟩
    · rintro ⟨h, n⟩
      by_cases e : x = c
      · exact .inr e
      · exact .inl ⟨h, fun z => n ⟨z, decide_eq_true e⟩⟩
def rLstOf (K : PySem.W.Frag) : List V → Hp → VK → Prop := fun xs H Q => ∃ p ys, xs = [V.ref p] ∧ (SqL K H p ys ∨ SqT K H p ys) ∧ ∀ l, H l = none → Q (.ref l) (upd H l (.lst ys))
section
variable {P : Program} {K : PySem.W.Frag} {w : World} {base : Heap} {mg : Str → Option Value} {CL : Addr} {Tb : TbL}
theorem scRight : FnScope nRi psLL (defScope sRight) := ⟨rfl, rfl, rfl, by decide +kernel, rfl, by decide +kernel, by decide +kernel⟩
theorem ok_right {f : Addr} {fd : FuncData} (F : Fun K "_law_lots_right" "_law_lots_right" sRight f fd) (T : Cst mg) (D1 : DfX P w K mg base 6 "are_safe" psU (spAre K CL)) (D2 : DfX P w K mg base 6 "least_bars" psU (spLeastB K Tb CL)) (D3 : Df P w K mg base 1 "_law_safe" psLL spSafe) (D4 : Df P w K mg base 4 "_law_least" psLL (spLLeast Tb)) : FnOk P w K mg base CX0 7 f fd psLL (spRight Tb) := by
  obtain ⟨e1, fd1, G1, m1, k1, b1⟩ := D1.ex
  obtain ⟨e2, fd2, G2, m2, k2, b2⟩ := D2.ex
  obtain ⟨e3, fd3, G3, m3, k3, b3⟩ := D3.ex
  obtain ⟨e4, fd4, G4, m4, k4, b4⟩ := D4.ex
  refine F.ok scRight (fun vs H Q E h => ?_) (fun cdv A outer s0 H vs Q E hr h => ?_)
  · obtain ⟨a, b, c, W, R, u, rfl, _⟩ := h
    rfl
  · obtain ⟨a, b, c, W, R, u, rfl, hW, hR, lW, lR, fW, fR, hc, fu, hT, q⟩ := h
    have hu : (A.deeper (envOfC "_law_lots_right" (defScope sRight) s0.heap.objs.size f cdv)).units + 64 < cLine := hr.units
    refine ⟨_, pss_cons (ps_if (pt_cmpR op_ne (pe_call (E := fun _ _ _ => False) G1 hr (by rfl) m1 k1 b1 .nil (passes_call takes0 fun _ _ _ _ h => h) (pa_cons (pv 0) (pa_cons (pv 1) (pa_cons (pv 2) pa_nil)))) (pe_call G3 (hr.mono (by decide)) (by rfl) m3 k3 b3 .nil pass0 (pa_cons (pv 0) (pa_cons (pv 1) (pa_cons (pv 2) pa_nil)))) (nomark _)) (pss_one (ps_ret pe_bl)) pss_nil)
      (pss_cons (ps_set (i := 3) scRight.nd rfl (Or.inl rfl) (pe_call (E := fun _ _ _ => False) G2 hr (by rfl) m2 k2 b2 .nil (passes_call takes0 fun _ _ _ _ h => h) (pa_cons (pe_callTy (show CallR _ (.type "tuple") (rTupOf K) from call_tuple_of) (by rfl) T.ttup (by decide +kernel) (pa_cons (pv 0) pa_nil)) (pa_cons (pe_callTy (show CallR _ (.type "list") (rLstOf K) from call_list_of) (by rfl) T.tlst (by decide +kernel) (pa_cons (pv 1) pa_nil)) (pa_cons (pv 2) pa_nil)))))
      (pss_cons (ps_if (pt_cmpR (show OpR _ (compareOp .NotEq) (rNeD K) from op_neD hu) (pv 3) (pe_call G4 (hr.mono (by decide)) (by rfl) m4 k4 b4 .nil pass0 (pa_cons (pv 0) (pa_cons (pv 1) (pa_cons (pv 2) pa_nil)))) (nomark _)) (pss_one (ps_ret pe_bl)) pss_nil)
      (pss_cons (ps_for PassesOwn.never rfl (pi_list (pv 3)) (pg_name (i := 4) scRight.nd rfl (Or.inr rfl))
        (pss_cons (ps_set (i := 5) scRight.nd rfl (Or.inl rfl) (pe_callTy (show CallR _ (.type "tuple") (rTupOf K) from call_tuple_of) (by rfl) T.ttup (by decide +kernel) (pa_cons (pe_lc (own := [("_law_copy", 6)]) (g := gName 6) (tt := _) rfl scRight.nd (pi_tup (pv 2)) (blkOk_by (own := [("_law_copy", 6)]) (N := nRi) (sc := defScope sRight) (by decide +kernel))
          (fun _ _ _ _ _ => pg_name (i := 6) scRight.nd rfl (Or.inl rfl)) (fun _ _ _ _ _ => pts_one (pt_cmpR (show OpR _ (compareOp .NotIn) (rIn K true) from op_notIn_seq) (pv 6) (pv 4) (by rfl))) (fun _ _ _ _ _ => pv 6)) pa_nil)))
        (pss_cons (ps_if (pt_not (pt_val (pe_call (E := fun _ _ _ => False) G1 hr (by rfl) m1 k1 b1 .nil (passes_call takes0 fun _ _ _ _ h => h) (pa_cons (pv 0) (pa_cons (pv 1) (pa_cons (pv 5) pa_nil)))))) (pss_one (ps_ret pe_bl)) pss_nil)
        (pss_one (ps_for PassesOwn.never rfl (pi_tup (pv 4)) (pg_name (i := 6) scRight.nd rfl (Or.inl rfl))
          (pss_one (ps_if (pt_val (pe_call (E := fun _ _ _ => False) G1 hr (by rfl) m1 k1 b1 .nil (passes_call takes0 fun _ _ _ _ h => h) (pa_cons (pv 0) (pa_cons (pv 1) (pa_cons (pe_callTy (show CallR _ (.type "tuple") (rTupOf K) from call_tuple_of) (by rfl) T.ttup (by decide +kernel) (pa_cons (pe_callB (cr_sortTI hu) (by rfl) T.srt (by decide +kernel) (pa_cons (pe_op (show OpR _ (binaryOp .Add) (rCatA K) from op_catA) (pv 5) (pe_tup (pa_cons (pv 6) pa_nil))) pa_nil)) pa_nil)) pa_nil))))) (pss_one (ps_ret pe_bl)) pss_nil)))))))
      (pss_one (ps_ret pe_bl))))), ?_⟩
    generalize hS : safe (W.map (·.2)) (R.map (·.2)) = S
    refine ⟨_, rfl, _, rfl, _, rfl, .ref a, .ref b, .ref c, rfl, chkT_lots hW.b fW hR.b fR hc fu ⟨a, b, c, W, R, u, rfl, rfl, rfl, hW.b, hR.b, lW, lR, fW, fR, hc, fun Ga s1 => ?_⟩⟩
    refine ⟨_, rfl, _, rfl, _, rfl, a, b, c, W, R, u, rfl, hW.same s1, hR.same s1, fun q hq => (fW q hq).len, .inl (s1 _ _ hc), fun Gb s2 => ?_⟩
    have s12 := s1.trans s2
    refine ⟨rfl, _, rfl, ?_⟩
    rw [show (!decide (V.bl (safe (W.map (·.2)) (R.map (·.2)) u) = V.bl (safe (W.map (·.2)) (R.map (·.2)) u))) = false from by simp]
    refine iteF ⟨_, rfl, a, _, rfl, .inl ⟨SqL.of (s12 _ _ hW.1), fun tw htw => ?_⟩⟩
    have s3 := s12.trans (same_up (o := .tup (refs W)) htw)
    have fw : upd Gb tw (.tup (refs W)) tw = some (.tup (refs W)) := upd_same
    generalize upd Gb tw (.tup (refs W)) = Gc at s3 fw ⊢
    refine ⟨_, rfl, b, _, rfl, .inl (SqL.of (s3 _ _ hR.1)), fun lr hlr => ?_⟩
    have s4 := s3.trans (same_up (o := .lst (refs R)) hlr)
    have fw4 : upd Gc lr (.lst (refs R)) tw = some (.tup (refs W)) := same_up hlr _ _ fw
    have fr : upd Gc lr (.lst (refs R)) lr = some (.lst (refs R)) := upd_same
    generalize upd Gc lr (.lst (refs R)) = Gd at s4 fw4 fr ⊢
    have hW4 : LotsB Gd tw W := ⟨.inr fw4, fun q hq => s4 _ _ (hW.2 q hq)⟩
    have hR4 : LotsB Gd lr R := ⟨.inl fr, fun q hq => s4 _ _ (hR.2 q hq)⟩
    refine ⟨_, rfl, .ref tw, .ref lr, .ref c, rfl, chkT_lots hW4 fW hR4 fR (s4 _ _ hc) fu ⟨tw, lr, c, W, R, u, rfl, rfl, rfl, hW4, hR4, lW, lR, fW, fR, s4 _ _ hc, fu, hT.ext s4, fun pt LT Ge eN tN hL eL => ?_⟩⟩
    have e5 := (LamX.ExtN.of s4).trans eN
    refine ⟨_, rfl, _, rfl, _, rfl, _, rfl, a, b, c, W, R, u, rfl, hW.ext e5, hR.ext e5, fun q hq => (fW q hq).len, e5 _ _ hc (fun _ z => by cases z), fu, tN, fun pl LL Gf eN2 tN2 hL2 eL2 => ?_⟩
    rw [hS] at eL eL2
    have e6 := e5.trans eN2
    refine ⟨datZs (LT.map (·.2)), datZs (LL.map (·.2)), dp_Zs (hL.ext eN2), dp_Zs hL2, shaped_Zs _, shaped_Zs _, ⟨_, rfl, ?_⟩⟩
    have ev : PyData.eqv (datZs (LT.map (·.2))) (datZs (LL.map (·.2))) = true := by
      show PyData.eqvAll _ _ = true
      rw [eqv_Zs, eL, eL2]
      exact decide_eq_true rfl
    rw [ev]
    refine iteF ⟨_, rfl, pt, rfl, ⟨_, SqL.of (hL.ext eN2).1⟩, ?_⟩
    have hLf := hL.ext eN2
    refine for_it (walk_list (K := K) (a := pt) (xs := refs LT)) (fun i σ G => (∃ x4 x5 x6, σ = [some (.ref a), some (.ref b), some (.ref c), some (.ref pt), x4, x5, x6]) ∧ Same Gf G) ⟨⟨_, _, _, rfl⟩, fun _ _ e => e⟩ (fun i σ G _ h => SqL.of (h.2 _ _ hLf.1)) ?_ ?_
    · rintro i y σ G G' hi ⟨⟨x4, x5, x6, rfl⟩, s7⟩ ⟨rfl, hy⟩
      obtain ⟨r, hr', rfl⟩ := refs_get hy
      have rL := List.mem_of_getElem? hr'
      have rS : r.2 ∈ leastS S u := eL ▸ List.mem_map.mpr ⟨r, rL, rfl⟩
      obtain ⟨rsub, rsafe⟩ := least_safe rS
      have e7 := e6.trans (LamX.ExtN.of s7)
      have hW7 := hW.ext e7
      have hR7 := hR.ext e7
      have hc7 := e7 _ _ hc (fun _ z => by cases z)
      have hr7 := s7 _ _ (hLf.2 r rL)
      refine ⟨_, rfl, c, rfl, ⟨_, SqT.of hc7⟩, fun D hD => ?_⟩
      refine walk_core (walk_tup (K := K) (a := c) (xs := u.map V.int)) (fun j F => Same G' F ∧ F D = some (.lst (((u.take j).filter fun x => !has r.2 x).map V.int))) ⟨same_up hD, upd_same⟩ (fun _ _ _ g => SqT.of (g.1 _ _ hc7)) ?_ ?_
      · rintro j y F F' hj ⟨s8, h8⟩ ⟨rfl, hy⟩
        obtain ⟨x, hx, rfl⟩ := zV_get hy
        refine ⟨rfl, _, rfl, _, rfl, r.1, _, rfl, .inr (SqT.of (s8 _ _ hr7)), rfl, flatZ r.2, _, rfl, ?_⟩
        have ei : (!inV (.int x) (r.2.map V.int)) = !has r.2 x := by rw [inZ]
        have fs := filt_snoc hx (fun x => !has r.2 x)
        refine ite2 (fun e => ?_) fun e => ?_
        · have e : (!has r.2 x) = true := ei ▸ e
          rw [if_pos e] at fs
          refine ⟨_, rfl, _, h8, small1000 (by rw [List.length_map]; exact Nat.le_trans (filt_len u j _) (by have := fu.len; omega)), sup hD s8, ?_⟩
          rw [upd_same, fs, List.map_append]
          rfl
        · have e : ¬ (!has r.2 x) = true := ei ▸ e
          rw [if_neg e, List.append_nil] at fs
          exact ⟨s8, by rw [fs]; exact h8⟩
      · rintro F ⟨s8, h8⟩
        rw [List.length_map, List.take_length] at h8
        refine ⟨D, _, rfl, .inl ⟨SqL.of h8, fun t ht => ?_⟩⟩
        have hwo : (u.filter fun x => !has r.2 x) = wo u r.2 := rfl
        rw [hwo]
        have s9 := s8.trans (same_up (o := .tup ((wo u r.2).map V.int)) ht)
        have ft : upd F t (.tup ((wo u r.2).map V.int)) t = some (.tup ((wo u r.2).map V.int)) := upd_same
        generalize upd F t (.tup ((wo u r.2).map V.int)) = F1 at s9 ft ⊢
        have fwo : Lot 5 (wo u r.2) := fu.sub (wo_sub _ _)
        refine ⟨_, rfl, _, rfl, _, rfl, .ref a, .ref b, .ref t, rfl, chkT_lots (hW7.same s9).b fW (hR7.same s9).b fR ft fwo ⟨a, b, t, W, R, wo u r.2, rfl, rfl, rfl, (hW7.same s9).b, (hR7.same s9).b, lW, lR, fW, fR, ft, fun F2 s10 => ⟨_, rfl, ?_⟩⟩⟩
        rw [hS, rsafe]
        have s910 := s9.trans s10
        refine iteF ⟨_, rfl, r.1, rfl, ⟨_, SqT.of (s910 _ _ hr7)⟩, ?_⟩
        refine for_it (walk_tup (K := K) (a := r.1) (xs := r.2.map V.int)) (fun i σ G => (∃ x6, σ = [some (.ref a), some (.ref b), some (.ref c), some (.ref pt), some (.ref r.1), some (.ref t), x6]) ∧ Same F2 G) ⟨⟨_, rfl⟩, fun _ _ e => e⟩ (fun i σ G _ h => SqT.of (h.2 _ _ (s910 _ _ hr7))) ?_ ?_
        · rintro j y σ F3 F4 hj ⟨⟨x6, rfl⟩, s11⟩ ⟨rfl, hy⟩
          obtain ⟨x, hx, rfl⟩ := zV_get hy
          have xr := List.mem_of_getElem? hx
          have s9b := s910.trans s11
          refine ⟨_, rfl, _, rfl, _, rfl, _, rfl, by show 1 ≤ sizeLine; decide, fun t1 ht1 => ?_⟩
          have s12' := same_up (o := .tup [.int x]) ht1
          have f1 : upd F4 t1 (.tup [.int x]) t1 = some (.tup [.int x]) := upd_same
          refine cat_any (s12' _ _ (s11 _ _ (s10 _ _ ft))) f1 (by rw [List.length_map]; have := fwo.len; show (wo u r.2).length + 1 ≤ 1000; omega) fun p F5 s13 hp => ?_
          have hp' : F5 p = some (.tup ((wo u r.2 ++ [x]).map V.int)) := by rw [hp, List.map_append]; rfl
          refine ⟨p, _, rfl, hp', fun p2 ms pm pw hp2 => ?_⟩
          have s14 := same_up (o := .lst (ms.map V.int)) hp2
          refine ⟨p2, _, rfl, .inl ⟨SqL.of upd_same, fun t2 ht2 => ?_⟩⟩
          have s15 := ((s12'.trans s13).trans s14).trans (same_up (o := .tup (ms.map V.int)) ht2)
          have f2 : upd (upd F5 p2 (.lst (ms.map V.int))) t2 (.tup (ms.map V.int)) t2 = some (.tup (ms.map V.int)) := upd_same
          generalize upd (upd F5 p2 (.lst (ms.map V.int))) t2 (.tup (ms.map V.int)) = F6 at s15 f2 ⊢
          obtain ⟨lm, mm⟩ := back_lot fu rsub xr pm pw
          have sZ := s9b.trans s15
          refine ⟨.ref a, .ref b, .ref t2, rfl, chkT_lots (hW7.same sZ).b fW (hR7.same sZ).b fR f2 lm ⟨a, b, t2, W, R, ms, rfl, rfl, rfl, (hW7.same sZ).b, (hR7.same sZ).b, lW, lR, fW, fR, f2, fun F7 s16 => ⟨_, rfl, ?_⟩⟩⟩
          have no : safe (W.map (·.2)) (R.map (·.2)) ms = false := by
            rw [safe_mem (W' := W.map (·.2)) (R' := R.map (·.2)) (fun _ => Iff.rfl) (fun _ => Iff.rfl) mm, hS]
            exact least_not rS xr
          rw [no]
          exact iteF ⟨⟨_, rfl⟩, (s11.trans s15).trans s16⟩
        · rintro σ F3 ⟨⟨x6, rfl⟩, s11⟩
          exact ⟨⟨_, _, _, rfl⟩, (s7.trans s910).trans s11⟩
    · rintro σ G ⟨⟨x4, x5, x6, rfl⟩, s7⟩
      exact q G (e6.trans (LamX.ExtN.of s7)) (tN2.ext s7)
end
end Pl

namespace Pl
open L2 PySem PySem.Spec PyProof.Rows RZ
/-- what is told by refusals -/
def Rdv (H : Hp) (v : V) (d : PyData) : Prop := ∃ m z, Dv m z H false v d
theorem Rdv.same {H G : Hp} {v : V} {d : PyData} (h : Rdv H v d) (s : Same H G) : Rdv G v d := by
  obtain ⟨m, z, h⟩ := h
  exact ⟨m, z, Dv.to (But.of s) _ _ _ h⟩
def rReprR : List V → Hp → VK → Prop := fun xs H Q => ∃ (v : V) (d : PyData), xs = [v] ∧ Rdv H v d ∧ Shw d ∧ Q (.str d.shown) H
theorem call_reprR {X : Cx} (hg : X.A.guards = some []) (hu : X.A.units + 64 < cLine) : CallR X (.builtin "repr") rReprR := by
  intro pins s σ H xs us Q I r h; skip
  obtain ⟨v, d, rfl, ⟨m, z, hd⟩, S, q⟩ := h
  exact call_repr hg hu pins s σ H _ us Q I r ⟨m, z, v, d, rfl, hd, S, q⟩
def oddT : List PyData := [.tuple [.int 1, .int 0], .tuple [.int 0, .int 0], .tuple [.int 5], .tuple [.int (-1)], .tuple [.bool true], .tuple [.str "0"], .tuple [.int 2]]
def oddL : List PyData := [.none, .bool true, .list [.int 0]] ++ oddT ++ ((List.range 11).map fun n => PyData.int (n : Nat))
def wordL : List Str := ["count", "lot"]
theorem odd_all : (oddL.all fun d => d.showable && decide (d.depth ≤ 10) && decide (d.shown.length ≤ sizeLine) && wordL.all fun w => SeqAt.shaped (.list [.str w, .str d.shown])) = true := by decide +kernel
theorem odd_ok {d : PyData} (h : d ∈ oddL) : Shw d ∧ ∀ w ∈ wordL, SeqAt.shaped (.list [.str w, .str d.shown]) = true := by
  have := List.all_eq_true.mp odd_all d h
  rw [Bool.and_eq_true, Bool.and_eq_true, Bool.and_eq_true] at this
  exact ⟨⟨this.1.1.1, of_decide_eq_true this.1.1.2, of_decide_eq_true this.1.2⟩, fun w hw => List.all_eq_true.mp this.2 w hw⟩
def OdV (H : Hp) (v : V) (e : PyData) : Prop := e ∈ oddL ∧ Rdv H v e
theorem OdV.same {H G : Hp} {v : V} {e : PyData} (h : OdV H v e) (s : Same H G) : OdV G v e := ⟨h.1, h.2.same s⟩
theorem OdV.fl {H : Hp} {v : V} {e : PyData} (m : e ∈ oddL) (f : Fl v e) : OdV H v e := ⟨m, true, 0, f.dv⟩
abbrev outL (w : Str) (d : PyData) : HO := .lst [.str w, .str d.shown]
structure Two where
  n : Addr
  p : Addr
def Two.is_ (c : Two) (w : Str) (cls : Value) : Prop := (w = "lot" ∧ cls = .ref c.p) ∨ (w = "count" ∧ cls = .ref c.n)
theorem Two.word {c : Two} {w : Str} {cls : Value} (h : c.is_ w cls) : w ∈ wordL := by
  rcases h with ⟨rfl, _⟩ | ⟨rfl, _⟩ <;> simp [wordL]
def TTr (c : Two) : (XK → Hp → VK → Prop) → Hp → VK → Prop := fun tl H Q =>
  tl (fun cls d H' => ∃ (dd : Addr) (v : V) (e : PyData) (w : Str), c.is_ w cls ∧ d = some dd ∧ H' dd = some (.xd [("told", v)]) ∧ OdV H' v e ∧ ∀ p, H' p = none → Q (.ref p) (upd H' p (outL w e))) H fun x H1 => [V.str "told", x].length ≤ sizeLine ∧ ∀ p, H1 p = none → Q (.ref p) (upd H1 p (.lst [.str "told", x]))
structure ErrS (K : PySem.W.Frag) (mg : Str → Option Value) (x : Str) (C : Addr) : Prop where
  gC : mg x = some (.ref C)
  xf : XfC K C
  no : PySem.W.findIn K (.ref C) "told" = some none
structure Tri (K : PySem.W.Frag) (mg : Str → Option Value) (c : Two) : Prop where
  n : ErrS K mg "NoCount" c.n
  p : ErrS K mg "NoLot" c.p
  nn : PySem.W.exmOne K (.ref c.n) (.ref c.n) = some true
  np : PySem.W.exmOne K (.ref c.n) (.ref c.p) = some false
  pp : PySem.W.exmOne K (.ref c.p) (.ref c.p) = some true
abbrev psT : List Str := ["_law_call", "e"]
theorem scTried : FnScope psT ["_law_call"] (defScope sTried) := ⟨rfl, rfl, rfl, by decide +kernel, rfl, by decide +kernel, by decide +kernel⟩
theorem takes_len {X : Cx} {W : WX} (tk : Takes X W) : Takes X (fun cls d σ H => σ.length = X.N.length → W cls d σ H) := fun u s' ⟨a, B, sI, pins, σ, H, cls, d, e, I, nb, up, sky, na, os, ag, w⟩ => tk u s' ⟨a, B, sI, pins, σ, H, cls, d, e, I, nb, up, sky, na, os, ag, w I.len⟩
theorem pss_ex {X : Cx} {b : List Stmt} {ι : Type} {Pre : ι → Prop} {t : ι → Ends → L2.St → Hp → Prop} (h : ∀ i, Pre i → PSs X b (t i)) : PSs X b (fun D σ H => ∃ i, Pre i ∧ t i D σ H) := ⟨fun pins s σ H D I ⟨i, p, h'⟩ => (h i p).run pins s σ H D I h'⟩
theorem tried_gives {X : Cx} {c : Two} {g : Addr} {cdg : Value} {q : Str} (hgd : X.A.guards = some []) (hun : X.A.units + 128 < cLine) (T : Cst X.mg) (S : Tri X.K X.mg c) : LamX.GivesTo X psT "_law_tried" (defScope sTried) g cdg (defBody sTried) "_law_call" q (TTr c) := by
  intro f c' s H Q tl act hc h
  have hu : (X.A.deeper (envOfC "_law_tried" (defScope sTried) s.heap.objs.size g cdg)).units + 64 < cLine := by
    show X.A.units + 3 + 64 < cLine
    omega
  refine ⟨_, pss_one (ps_try_all (X := (cxOf C8.CX0 X.prog X.w X.K X.mg X.base psT "_law_tried" (defScope sTried) g cdg X.A X.stack s H C8.E0).nox) (i := 1) (n := "e")
      rfl rfl scTried.nd rfl rfl takes0 (fun W pn xe tk _ => pss_ex (Pre := fun Ech : XK => ∀ cls d σ' H', Ech cls d H' → (List.length σ' = 2) → W cls d σ' H') fun Ech hW => pss_one (ps_ret (pe_lst (pa_cons pe_str (pa_cons (act _ pn xe Ech _ _ (takes_len tk) hW) pa_nil)))))
      (.cons (x := "NoLot") ⟨rfl, by decide, .inl S.p.gC⟩ (fun a oe cls d pn hz hf => pss_one (ps_ret (pe_lst (pa_cons pe_str (pa_cons (pe_callB (call_reprR hgd hu) (by rfl) T.rpr (by decide +kernel) (pa_cons (pe_xf S.p.xf S.p.no hz hf (pv 1)) pa_nil)) pa_nil)))))
      (.cons (x := "NoCount") ⟨rfl, by decide, .inl S.n.gC⟩ (fun a oe cls d pn hz hf => pss_one (ps_ret (pe_lst (pa_cons pe_str (pa_cons (pe_callB (call_reprR hgd hu) (by rfl) T.rpr (by decide +kernel) (pa_cons (pe_xf S.n.xf S.n.no hz hf (pv 1)) pa_nil)) pa_nil)))))
      .nil))), ?_⟩
  refine ⟨_, ?_, rfl, hc, h⟩
  rintro cls d σ' H' ⟨dd, v, e, w, hw, rfl, hd, ⟨me, dv⟩, q'⟩ hl
  match σ', hl with
  | [y1, y2], _ =>
  rcases hw with ⟨rfl, rfl⟩ | ⟨rfl, rfl⟩
  · exact ⟨true, S.pp, fun _ a ha => ⟨_, rfl, rfl, rfl, dd, _, v, rfl, hd, rfl, v, e, rfl, dv, (odd_ok me).1, by show 2 ≤ sizeLine; decide, fun l hl => q' l hl⟩, fun q => nomatch q⟩
  · exact ⟨false, S.np, (fun q => nomatch q), fun _ => ⟨true, S.nn, fun _ a ha => ⟨_, rfl, rfl, rfl, dd, _, v, rfl, hd, rfl, v, e, rfl, dv, (odd_ok me).1, by show 2 ≤ sizeLine; decide, fun l hl => q' l hl⟩, fun q => nomatch q⟩⟩
theorem eqv_self {d : PyData} (h : SeqAt.shaped d = true) : PyData.eqv d d = true := by
  have h' : (d.canLay0 && decide (d.depth ≤ 64)) = true := h
  rw [Bool.and_eq_true] at h'
  exact SeqAt.eqv_refl d h'.1
theorem ne_lists {K : PySem.W.Frag} {G : Hp} {p p2 : Addr} {w : Str} {e : PyData} {Q : VK} (hw : w ∈ wordL) (me : e ∈ oddL) (hp : G p = some (outL w e)) (hp2 : G p2 = some (outL w e)) (q : Q (.bl false) G) : rNeD K (.ref p) (.ref p2) G Q := by
  have sh := (odd_ok me).2 w hw
  refine ⟨_, _, .lst (SqL.of hp) (.cons (.str _) (.cons (.str _) .nil)), .lst (SqL.of hp2) (.cons (.str _) (.cons (.str _) .nil)), sh, sh, ?_⟩
  rw [eqv_self sh]
  exact q
theorem eq_lists {K : PySem.W.Frag} {G : Hp} {p p2 : Addr} {w : Str} {e : PyData} {Q : VK} (hw : w ∈ wordL) (me : e ∈ oddL) (hp : G p = some (outL w e)) (hp2 : G p2 = some (outL w e)) (q : Q (.bl true) G) : rEqD K (.ref p) (.ref p2) G Q := by
  have sh := (odd_ok me).2 w hw
  refine ⟨_, _, .lst (SqL.of hp) (.cons (.str _) (.cons (.str _) .nil)), .lst (SqL.of hp2) (.cons (.str _) (.cons (.str _) .nil)), sh, sh, ?_⟩
  rw [eqv_self sh]
  exact q
theorem if_tried {K : PySem.W.Frag} {Tb : TbL} {c : Two} {C : Addr} {t : XK → TE} {tR : TE} {v : V} {e : PyData} {w : Str} {σ : L2.St} {G : Hp} {D : Ends} (hw : c.is_ w (.ref C)) (hT : LamX.Tabs Tb G)
    (raise : ∀ (E : XK) (H1 : Hp) (Q' : VK), LamX.ExtN G H1 → Rais C v H1 E → t E σ H1 Q') (od : ∀ H1, LamX.ExtN G H1 → OdV H1 v e)
    (right : ∀ (H1 : Hp) (Q' : VK), LamX.ExtN G H1 → (∀ p2 G2, Same H1 G2 → G2 p2 = some (outL w e) → Q' (.ref p2) G2) → tR σ H1 Q')
    (next : ∀ G', LamX.ExtN G G' → LamX.Tabs Tb G' → D.nx σ G') : tIfS (tTest (tOp (rNeD K) (LamX.tLam Tb (TTr c) t) tR)) (tRet (tC (V.bl false))) tNext D σ G := by
  refine ⟨hT, fun H1 eN T1 => raise _ H1 _ eN fun dd H' s' hd => ⟨dd, v, e, w, hw, rfl, hd, (od H1 eN).same s', fun p hp => ?_⟩⟩
  refine right _ _ (eN.trans (LamX.ExtN.of (s'.trans (same_up hp)))) fun p2 G2 s2 h2 => ?_
  have sA := (s'.trans (same_up (o := outL w e) hp)).trans s2
  exact ne_lists (Two.word hw) (od H1 eN).1 (s2 _ _ upd_same) h2 ⟨_, rfl, iteF (next G2 (eN.trans (LamX.ExtN.of sA)) (T1.ext sA))⟩
/-- [w, repr(the name in slot i)] -/
theorem due_read {w : Str} {i : Nat} {v : V} {e : PyData} {σ : L2.St} {H1 : Hp} {Q' : VK} (hv : σ[i]? = some (some v)) (od : OdV H1 v e) (q : ∀ p2 G2, Same H1 G2 → G2 p2 = some (outL w e) → Q' (.ref p2) G2) :
    tLst (tCons (tC (V.str w)) (tCons (tCB rReprR (tCons (tVar i) tNil)) tNil)) σ H1 Q' :=
  ⟨v, hv, v, e, rfl, od.2, (odd_ok od.1).1, by show 2 ≤ sizeLine; decide, fun p2 hp2 => q p2 _ (same_up hp2) upd_same⟩
end Pl

namespace Pl
open L2 PySem PySem.Spec PyProof.Rows RZ
theorem OdV.lst {H : Hp} {a : Addr} {vs : List V} {ds : List PyData} (m : PyData.list ds ∈ oddL) (h : H a = some (.lst vs)) (f : FlL vs ds) : OdV H (.ref a) (.list ds) := by
  refine ⟨m, false, a + 1, .lst rfl (Nat.ne_of_lt (Nat.lt_succ_self a)) h ?_⟩
  clear h m
  induction f with
  | nil => exact .nil
  | cons a _ ih => exact .cons a.dv ih
theorem OdV.tup {H : Hp} {a : Addr} {vs : List V} {ds : List PyData} (m : PyData.tuple ds ∈ oddL) (h : H a = some (.tup vs)) (f : FlL vs ds) : OdV H (.ref a) (.tuple ds) := by
  refine ⟨m, false, a + 1, .tup (Nat.ne_of_lt (Nat.lt_succ_self a)) (.any h) ?_⟩
  clear h m
  induction f with
  | nil => exact .nil
  | cons a _ ih => exact .cons a.dv ih
theorem within_hi {i lo hi : Int} (h : hi < i) : within (.int i) lo hi = false := by
  show (decide (lo ≤ i) && decide (i ≤ hi)) = false
  rw [decide_eq_false (by omega : ¬ i ≤ hi), Bool.and_false]
theorem within_lo {i lo hi : Int} (h : i < lo) : within (.int i) lo hi = false := by
  show (decide (lo ≤ i) && decide (i ≤ hi)) = false
  rw [decide_eq_false (by omega : ¬ lo ≤ i), Bool.false_and]
theorem odd_num {n : Nat} (b : n ≤ 10) : PyData.int (n : Int) ∈ oddL := by
  unfold oddL
  exact List.mem_append_right _ (List.mem_map.mpr ⟨n, List.mem_range.mpr (by omega), rfl⟩)
theorem ext_at {H G : Hp} {a : Addr} {xs : List V} (x : LamX.ExtN H G) (h : H a = some (.lst xs)) : G a = some (.lst xs) := x _ _ h fun _ q => by cases q
theorem ext_tp {H G : Hp} {a : Addr} {xs : List V} (x : LamX.ExtN H G) (h : H a = some (.tup xs)) : G a = some (.tup xs) := x _ _ h fun _ q => by cases q
theorem chk_bad {K : PySem.W.Frag} {C : Addr} {H : Hp} {E : XK} {v e : V} {o : Option (List OL)} {N : Prop} (w : Wz K H v o) (b : badW o = some e) (r : Rais C e H E) : Chk K C H E v N := ⟨o, w, fun x hx => by
  rw [b] at hx
  cases hx
  exact r, fun z => by
  rw [b] at z
  cases z⟩
theorem TzL.app {K : PySem.W.Frag} {H : Hp} : ∀ {vs ws : List V} {os ps : List OL}, TzL K H vs os → TzL K H ws ps → TzL K H (vs ++ ws) (os ++ ps)
  | _, _, _, _, .nil, h => h
  | _, _, _, _, .cons a t, h => .cons a (t.app h)
theorem cks_ok {C : Addr} {H : Hp} {E : XK} {g : Int → Int → Int → Int → Int → Prop} {c r w : Int} (c0 : 1 ≤ c) (c1 : c ≤ 5) (r0 : 1 ≤ r) (r1 : r ≤ c) (w0 : 1 ≤ w) (w1 : w ≤ c) (h : g c r w 0 2) : Cks C (.int c) (.int r) (.int w) (.int 0) (.int 2) H E g :=
  ⟨_, ck_int c0 c1 fun c' ec _ _ => by
    cases ec
    exact ⟨_, ck_int r0 r1 fun r' er _ _ => by
      cases er
      exact ⟨_, ck_int w0 w1 fun w' ew _ _ => by
        cases ew
        exact ⟨_, ck_int (by omega) (by omega) fun u' eu _ _ => by
          cases eu
          exact ⟨_, ck_int (by omega) (by omega) fun p' ep _ _ => by
            cases ep
            exact h⟩⟩⟩⟩⟩
theorem due_none {w : Str} {σ : L2.St} {H1 : Hp} {Q' : VK} (q : ∀ p2 G2, Same H1 G2 → G2 p2 = some (outL w .none) → Q' (.ref p2) G2) : tLst (tCons (tC (V.str w)) (tCons (tC (V.str "None")) tNil)) σ H1 Q' :=
  ⟨by show 2 ≤ sizeLine; decide, fun p2 hp2 => q p2 _ (same_up hp2) (by
    have e : PyData.shown .none = ("None" : Str) := by simp only [PyData.shown]
    rw [upd_same]
    show some (HO.lst [V.str w, V.str ("None" : Str)]) = some (HO.lst [V.str w, V.str (PyData.shown .none)])
    rw [e])⟩
def spRefused (Tb : TbL) : Sp := fun vs H Q _ => ∃ (a : Addr) (v : V) (W : List AT), vs = [.ref a, v] ∧ Lots H a W ∧ W.length ≤ 10 ∧ (∀ q ∈ W, Lot 5 q.2) ∧ LamX.Tabs Tb H ∧ ∀ H', LamX.ExtN H H' → LamX.Tabs Tb H' → Q (.bl true) H'
abbrev nR : List Str := ["_law_good", "_law_bad", "_law_odd"]
section
variable {P : Program} {K : PySem.W.Frag} {w : World} {base : Heap} {mg : Str → Option Value} {c : Two} {cd Pt : Addr} {Tb : TbL}
theorem scRefused : FnScope nR ["_law_good", "_law_bad"] (defScope sRefused) := ⟨rfl, rfl, rfl, by decide +kernel, rfl, by decide +kernel, by decide +kernel⟩
theorem ok_refused {f gT : Addr} {fd fdT : FuncData} (F : FunC K "_law_refused" "_law_refused" sRefused f cd fd) (T : Cst mg) (S : Tri K mg c) (TB : LamX.TabB base mg cd Pt) (hmT : (Pt, lamR) ∈ Tb) (huT : ∀ p ∈ Tb, p.1 = Pt → p.2 = lamR) (FT : Fun K "_law_tried" "_law_tried" sTried gT fdT) (mT : mg "_law_tried" = some (.ref gT)) (bT : Binds K fdT ["_law_call"] [])
    (DA : DfX P w K mg base 6 "are_safe" psU (spAre K c.p)) (DL : DfX P w K mg base 6 "least_bars" psU (spLeastB K Tb c.p)) (DB : DfX P w K mg base 5 "bars_by_count" ps4 (spByC K Tb c.n c.p)) : FnG P w K mg base 9 f fd ["_law_good", "_law_bad"] (spRefused Tb) := by
  obtain ⟨oc, od, kV, doc, pm, an, cdv, ct, osl, rfl, lT, hcT⟩ := FT.ex
  have kT := FT.kp
  obtain ⟨gA, fdA, GA, mA, kA, bA⟩ := DA.ex
  obtain ⟨gL, fdL, GL, mL, kL, bL⟩ := DL.ex
  obtain ⟨gB, fdB, GB, mB, kB, bB⟩ := DB.ex
  refine okC F scRefused (fun vs H Q E h => ?_) (fun A outer s H vs Q E hgd hr h => ?_)
  · obtain ⟨a, v, W, rfl, _⟩ := h
    rfl
  · obtain ⟨a, v0, W, rfl, hW, lW, fW, hT, q⟩ := h
    have hu : (A.deeper (envOfC "_law_refused" (defScope sRefused) ‹Shared›.heap.objs.size f (.ref cd))).units + 64 < cLine := by
      have := hr.un
      omega
    have hun : (A.deeper (envOfC "_law_refused" (defScope sRefused) ‹Shared›.heap.objs.size f (.ref cd))).units + 128 < cLine := by
      have := hr.un
      omega
    refine ⟨_, pss_cons (ps_for PassesOwn.never rfl (pi_list (pe_lst (pa_cons pe_non (pa_cons pe_int (pa_cons pe_str (pa_cons pe_dnewK pa_nil)))))) (pg_name (i := 2) scRefused.nd rfl (Or.inr rfl))
        (pss_cons (ps_if (pt_cmpR (op_neD hu) (LamX.pe_lamcall (x := "_law_tried") (a := "_law_call") (T := Tb) (TT := TTr c) (k := 6) (by rfl) mT kT lT hcT bT scTried rfl (Or.inl rfl) (tried_gives hgd hun T S) TB rfl hmT huT hr (show LamX.LamS (defScope sRefused) _ from LamX.lamS_by (by decide +kernel)) rfl (fun _ _ _ _ _ => rfl) (fun A outer s H E f c' hr2 => pe_call (E := E) GA (hr2.mono (by decide)) (by rfl) mA kA bA .nil (passes_call (takes_of rfl rfl rfl rfl) fun _ _ _ _ h => h) (pa_cons (pv 2) (pa_cons pe_non (pa_cons pe_non pa_nil)))))
          (pe_lst (pa_cons pe_str (pa_cons pe_str pa_nil))) (nomark _)) (pss_one (ps_ret pe_bl)) pss_nil)
        (pss_one (ps_if (pt_cmpR (op_neD hu) (LamX.pe_lamcall (x := "_law_tried") (a := "_law_call") (T := Tb) (TT := TTr c) (k := 6) (by rfl) mT kT lT hcT bT scTried rfl (Or.inl rfl) (tried_gives hgd hun T S) TB rfl hmT huT hr (show LamX.LamS (defScope sRefused) _ from LamX.lamS_by (by decide +kernel)) rfl (fun _ _ _ _ _ => rfl) (fun A outer s H E f c' hr2 => pe_call (E := E) GL (hr2.mono (by decide)) (by rfl) mL kL bL .nil (passes_call (takes_of rfl rfl rfl rfl) fun _ _ _ _ h => h) (pa_cons (pv 0) (pa_cons (pv 2) (pa_cons pe_non pa_nil)))))
          (pe_lst (pa_cons pe_str (pa_cons pe_str pa_nil))) (nomark _)) (pss_one (ps_ret pe_bl)) pss_nil))))
      (pss_cons (ps_for PassesOwn.never rfl (pi_list (pe_lst (pa_cons pe_non (pa_cons pe_int (pa_cons (pe_lst (pa_cons pe_int pa_nil)) (pa_cons (pe_tup (pa_cons pe_int (pa_cons pe_int pa_nil))) (pa_cons (pe_tup (pa_cons pe_int (pa_cons pe_int pa_nil))) (pa_cons (pe_tup (pa_cons pe_int pa_nil)) (pa_cons (pe_tup (pa_cons (pe_op op_sub pe_int pe_int) pa_nil)) (pa_cons (pe_tup (pa_cons pe_bl pa_nil)) (pa_cons (pe_tup (pa_cons pe_str pa_nil)) pa_nil))))))))))) (pg_name (i := 2) scRefused.nd rfl (Or.inr rfl))
        (pss_cons (ps_if (pt_cmpR (op_neD hu) (LamX.pe_lamcall (x := "_law_tried") (a := "_law_call") (T := Tb) (TT := TTr c) (k := 6) (by rfl) mT kT lT hcT bT scTried rfl (Or.inl rfl) (tried_gives hgd hun T S) TB rfl hmT huT hr (show LamX.LamS (defScope sRefused) _ from LamX.lamS_by (by decide +kernel)) rfl (fun _ _ _ _ _ => rfl) (fun A outer s H E f c' hr2 => pe_call (E := E) GA (hr2.mono (by decide)) (by rfl) mA kA bA .nil (passes_call (takes_of rfl rfl rfl rfl) fun _ _ _ _ h => h) (pa_cons (pe_op op_cat (pv 0) (pe_lst (pa_cons (pv 2) (pa_cons pe_non pa_nil)))) (pa_cons pe_non (pa_cons pe_non pa_nil)))))
          (pe_lst (pa_cons pe_str (pa_cons (pe_callB (call_reprR hgd hu) (by rfl) T.rpr (by decide +kernel) (pa_cons (pe_callB (show CallR _ (.builtin "len") (rLenQ K) from call_len_seq) (by rfl) T.len PySem.boot_len (pa_cons (pv 0) pa_nil)) pa_nil)) pa_nil))) (nomark _)) (pss_one (ps_ret pe_bl)) pss_nil)
        (pss_cons (ps_if (pt_cmpR (op_neD hu) (LamX.pe_lamcall (x := "_law_tried") (a := "_law_call") (T := Tb) (TT := TTr c) (k := 6) (by rfl) mT kT lT hcT bT scTried rfl (Or.inl rfl) (tried_gives hgd hun T S) TB rfl hmT huT hr (show LamX.LamS (defScope sRefused) _ from LamX.lamS_by (by decide +kernel)) rfl (fun _ _ _ _ _ => rfl) (fun A outer s H E f c' hr2 => pe_call (E := E) GL (hr2.mono (by decide)) (by rfl) mL kL bL .nil (passes_call (takes_of rfl rfl rfl rfl) fun _ _ _ _ h => h) (pa_cons (pv 0) (pa_cons (pe_op op_cat (pv 0) (pe_lst (pa_cons (pv 2) (pa_cons pe_non pa_nil)))) (pa_cons pe_non pa_nil)))))
          (pe_lst (pa_cons pe_str (pa_cons (pe_callB (call_reprR hgd hu) (by rfl) T.rpr (by decide +kernel) (pa_cons (pe_callB (show CallR _ (.builtin "len") (rLenQ K) from call_len_seq) (by rfl) T.len PySem.boot_len (pa_cons (pv 0) pa_nil)) pa_nil)) pa_nil))) (nomark _)) (pss_one (ps_ret pe_bl)) pss_nil)
        (pss_cons (ps_if (pt_cmpR (op_neD hu) (LamX.pe_lamcall (x := "_law_tried") (a := "_law_call") (T := Tb) (TT := TTr c) (k := 6) (by rfl) mT kT lT hcT bT scTried rfl (Or.inl rfl) (tried_gives hgd hun T S) TB rfl hmT huT hr (show LamX.LamS (defScope sRefused) _ from LamX.lamS_by (by decide +kernel)) rfl (fun _ _ _ _ _ => rfl) (fun A outer s H E f c' hr2 => pe_call (E := E) GA (hr2.mono (by decide)) (by rfl) mA kA bA .nil (passes_call (takes_of rfl rfl rfl rfl) fun _ _ _ _ h => h) (pa_cons (pv 0) (pa_cons (pv 0) (pa_cons (pv 2) pa_nil)))))
          (pe_lst (pa_cons pe_str (pa_cons (pe_callB (call_reprR hgd hu) (by rfl) T.rpr (by decide +kernel) (pa_cons (pv 2) pa_nil)) pa_nil))) (nomark _)) (pss_one (ps_ret pe_bl)) pss_nil)
        (pss_one (ps_if (pt_cmpR (op_neD hu) (LamX.pe_lamcall (x := "_law_tried") (a := "_law_call") (T := Tb) (TT := TTr c) (k := 6) (by rfl) mT kT lT hcT bT scTried rfl (Or.inl rfl) (tried_gives hgd hun T S) TB rfl hmT huT hr (show LamX.LamS (defScope sRefused) _ from LamX.lamS_by (by decide +kernel)) rfl (fun _ _ _ _ _ => rfl) (fun A outer s H E f c' hr2 => pe_call (E := E) GB (hr2.mono (by decide)) (by rfl) mB kB bB .nil (passes_call (takes_of rfl rfl rfl rfl) fun _ _ _ _ h => h) (pa_cons pe_int (pa_cons pe_int (pa_cons pe_int (pa_cons (pv 2) pa_nil))))))
          (pe_lst (pa_cons pe_str (pa_cons (pe_callB (call_reprR hgd hu) (by rfl) T.rpr (by decide +kernel) (pa_cons (pv 2) pa_nil)) pa_nil))) (nomark _)) (pss_one (ps_ret pe_bl)) pss_nil))))))
      (pss_cons (ps_for PassesOwn.never rfl (pi_list (pe_lst (pa_cons pe_non (pa_cons pe_int (pa_cons pe_int (pa_cons pe_bl pa_nil)))))) (pg_name (i := 2) scRefused.nd rfl (Or.inr rfl))
        (pss_cons (ps_if (pt_cmpR (op_neD hu) (LamX.pe_lamcall (x := "_law_tried") (a := "_law_call") (T := Tb) (TT := TTr c) (k := 6) (by rfl) mT kT lT hcT bT scTried rfl (Or.inl rfl) (tried_gives hgd hun T S) TB rfl hmT huT hr (show LamX.LamS (defScope sRefused) _ from LamX.lamS_by (by decide +kernel)) rfl (fun _ _ _ _ _ => rfl) (fun A outer s H E f c' hr2 => pe_call (E := E) GB (hr2.mono (by decide)) (by rfl) mB kB bB .nil (passes_call (takes_of rfl rfl rfl rfl) fun _ _ _ _ h => h) (pa_cons (pv 2) (pa_cons pe_non (pa_cons pe_non (pa_cons pe_non pa_nil))))))
          (pe_lst (pa_cons pe_str (pa_cons (pe_callB (call_reprR hgd hu) (by rfl) T.rpr (by decide +kernel) (pa_cons (pv 2) pa_nil)) pa_nil))) (nomark _)) (pss_one (ps_ret pe_bl)) pss_nil)
        (pss_cons (ps_if (pt_cmpR (op_neD hu) (LamX.pe_lamcall (x := "_law_tried") (a := "_law_call") (T := Tb) (TT := TTr c) (k := 6) (by rfl) mT kT lT hcT bT scTried rfl (Or.inl rfl) (tried_gives hgd hun T S) TB rfl hmT huT hr (show LamX.LamS (defScope sRefused) _ from LamX.lamS_by (by decide +kernel)) rfl (fun _ _ _ _ _ => rfl) (fun A outer s H E f c' hr2 => pe_call (E := E) GB (hr2.mono (by decide)) (by rfl) mB kB bB .nil (passes_call (takes_of rfl rfl rfl rfl) fun _ _ _ _ h => h) (pa_cons pe_int (pa_cons (pv 2) (pa_cons pe_non (pa_cons pe_non pa_nil))))))
          (pe_lst (pa_cons pe_str (pa_cons (pe_callB (call_reprR hgd hu) (by rfl) T.rpr (by decide +kernel) (pa_cons (pv 2) pa_nil)) pa_nil))) (nomark _)) (pss_one (ps_ret pe_bl)) pss_nil)
        (pss_one (ps_if (pt_cmpR (op_neD hu) (LamX.pe_lamcall (x := "_law_tried") (a := "_law_call") (T := Tb) (TT := TTr c) (k := 6) (by rfl) mT kT lT hcT bT scTried rfl (Or.inl rfl) (tried_gives hgd hun T S) TB rfl hmT huT hr (show LamX.LamS (defScope sRefused) _ from LamX.lamS_by (by decide +kernel)) rfl (fun _ _ _ _ _ => rfl) (fun A outer s H E f c' hr2 => pe_call (E := E) GB (hr2.mono (by decide)) (by rfl) mB kB bB .nil (passes_call (takes_of rfl rfl rfl rfl) fun _ _ _ _ h => h) (pa_cons pe_int (pa_cons pe_int (pa_cons (pv 2) (pa_cons pe_non pa_nil))))))
          (pe_lst (pa_cons pe_str (pa_cons (pe_callB (call_reprR hgd hu) (by rfl) T.rpr (by decide +kernel) (pa_cons (pv 2) pa_nil)) pa_nil))) (nomark _)) (pss_one (ps_ret pe_bl)) pss_nil)))))
      (pss_one (ps_ret (pe_cmpR (op_eqD hu) (LamX.pe_lamcall (x := "_law_tried") (a := "_law_call") (T := Tb) (TT := TTr c) (k := 6) (by rfl) mT kT lT hcT bT scTried rfl (Or.inl rfl) (tried_gives hgd hun T S) TB rfl hmT huT hr (show LamX.LamS (defScope sRefused) _ from LamX.lamS_by (by decide +kernel)) rfl (fun _ _ _ _ _ => rfl) (fun A outer s H E f c' hr2 => pe_call (E := E) GB (hr2.mono (by decide)) (by rfl) mB kB bB .nil (passes_call (takes_of rfl rfl rfl rfl) fun _ _ _ _ h => h) (pa_cons pe_int (pa_cons pe_int (pa_cons pe_int (pa_cons (pe_tup (pa_cons pe_int pa_nil)) pa_nil))))))
          (pe_lst (pa_cons pe_str (pa_cons (pe_callB (call_reprR hgd hu) (by rfl) T.rpr (by decide +kernel) (pa_cons (pe_tup (pa_cons pe_int pa_nil)) pa_nil)) pa_nil))) (nomark _)))))), ?_⟩
    refine fun dd hdd => ⟨by show 4 ≤ sizeLine; decide, fun p1 hp1 => ⟨p1, rfl, ⟨_, SqL.of upd_same⟩, ?_⟩⟩
    generalize hB1 : upd _ p1 _ = B1
    have s0 := same_up (o := .dK []) hdd
    have sB1 : Same H B1 := by rw [← hB1]; exact s0.trans (same_up hp1)
    have fD : B1 dd = some (.dK []) := by rw [← hB1]; exact same_up hp1 _ _ upd_same
    have fB1 : B1 p1 = some (.lst [.non, .int 5, .str "ab", .ref dd]) := by rw [← hB1]; exact upd_same
    have tB1 := hT.ext sB1
    have ways1 : ∀ v ∈ [V.non, .int 5, .str "ab", .ref dd], ∀ H1, LamX.ExtN B1 H1 → Wz K H1 v none := by
      intro v hv H1 x
      simp only [List.mem_cons, List.not_mem_nil, or_false] at hv
      rcases hv with rfl | rfl | rfl | rfl
      · exact .no (fun _ _ => .base .non) (kit_ty (show kitB "NoneType" "list" = some false from by decide +kernel)) (kit_ty (show kitB "NoneType" "tuple" = some false from by decide +kernel))
      · exact .no (fun _ _ => .base (.int 5)) (kit_ty (show kitB "int" "list" = some false from by decide +kernel)) (kit_ty (show kitB "int" "tuple" = some false from by decide +kernel))
      · exact .no (fun _ _ => .base (.str _)) (kit_ty (show kitB "str" "list" = some false from by decide +kernel)) (kit_ty (show kitB "str" "tuple" = some false from by decide +kernel))
      · exact .no (fun G sG => .base (.dK (sG _ _ (x _ _ fD fun _ q => by cases q)))) (kit_ty (show kitB "dict" "list" = some false from by decide +kernel)) (kit_ty (show kitB "dict" "tuple" = some false from by decide +kernel))
    have odN : ∀ H1, OdV H1 .non .none := fun H1 => .fl (by simp [oddL]) .non
    refine for_list (K := K) (a := p1) (xs := [.non, .int 5, .str "ab", .ref dd]) (fun i σ G => (∃ x2, σ = [some (.ref a), some v0, x2]) ∧ LamX.ExtN B1 G ∧ LamX.Tabs Tb G) ⟨⟨_, rfl⟩, LamX.ExtN.refl _, tB1⟩ (fun i σ G _ h => SqL.of (ext_at h.2.1 fB1)) ?_ ?_
    · rintro i v σ G hv ⟨⟨x2, rfl⟩, e1, t1⟩
      have wz := ways1 v (List.mem_of_getElem? hv)
      refine if_tried (K := K) (w := "lot") (C := c.p) (e := .none) (v := .non) (.inl ⟨rfl, rfl⟩) t1 (fun E H1 Q' x r => ⟨v, rfl, v, .non, .non, rfl, chk_bad (wz H1 (e1.trans x)) rfl r⟩) (fun H1 _ => odN H1) (fun H1 Q' _ q' => due_none q') fun G1 e2 t2 => ?_
      exact if_tried (K := K) (w := "lot") (C := c.p) (e := .none) (v := .non) (.inl ⟨rfl, rfl⟩) t2 (fun E H1 Q' x r => ⟨_, rfl, v, rfl, _, v, .non, rfl, chk_lots (hW.ext (((LamX.ExtN.of sB1).trans (e1.trans e2)).trans x)).b fW (chk_bad (wz H1 ((e1.trans e2).trans x)) rfl r)⟩) (fun H1 _ => odN H1) (fun H1 Q' _ q' => due_none q') fun G2 e3 t3 => ⟨⟨_, rfl⟩, (e1.trans e2).trans e3, t3⟩
    rintro σ G1 ⟨⟨x2, rfl⟩, e1, t1⟩
    have E1 := (LamX.ExtN.of sB1).trans e1
    refine ⟨by show 1 ≤ sizeLine; decide, fun l1 hl1 => ?_⟩
    generalize hA1 : upd _ l1 _ = A1
    have s1 : Same G1 A1 := by rw [← hA1]; exact same_up hl1
    have f1 : A1 l1 = some (.lst [.int 0]) := by rw [← hA1]; exact upd_same
    refine ⟨by show 2 ≤ sizeLine; decide, fun l2 hl2 => ?_⟩
    generalize hA2 : upd _ l2 _ = A2
    have s2 : Same A1 A2 := by rw [← hA2]; exact same_up hl2
    have f2 : A2 l2 = some (.tup [.int 1, .int 0]) := by rw [← hA2]; exact upd_same
    refine ⟨by show 2 ≤ sizeLine; decide, fun l3 hl3 => ?_⟩
    generalize hA3 : upd _ l3 _ = A3
    have s3 : Same A2 A3 := by rw [← hA3]; exact same_up hl3
    have f3 : A3 l3 = some (.tup [.int 0, .int 0]) := by rw [← hA3]; exact upd_same
    refine ⟨by show 1 ≤ sizeLine; decide, fun l4 hl4 => ?_⟩
    generalize hA4 : upd _ l4 _ = A4
    have s4 : Same A3 A4 := by rw [← hA4]; exact same_up hl4
    have f4 : A4 l4 = some (.tup [.int 5]) := by rw [← hA4]; exact upd_same
    refine ⟨_, _, rfl, rfl, by show 1 ≤ sizeLine; decide, fun l5 hl5 => ?_⟩
    generalize hA5 : upd _ l5 _ = A5
    have s5 : Same A4 A5 := by rw [← hA5]; exact same_up hl5
    have f5 : A5 l5 = some (.tup [.int (0 - 1)]) := by rw [← hA5]; exact upd_same
    refine ⟨by show 1 ≤ sizeLine; decide, fun l6 hl6 => ?_⟩
    generalize hA6 : upd _ l6 _ = A6
    have s6 : Same A5 A6 := by rw [← hA6]; exact same_up hl6
    have f6 : A6 l6 = some (.tup [.bl true]) := by rw [← hA6]; exact upd_same
    refine ⟨by show 1 ≤ sizeLine; decide, fun l7 hl7 => ?_⟩
    generalize hA7 : upd _ l7 _ = A7
    have s7 : Same A6 A7 := by rw [← hA7]; exact same_up hl7
    have f7 : A7 l7 = some (.tup [.str "0"]) := by rw [← hA7]; exact upd_same
    refine ⟨by show 9 ≤ sizeLine; decide, fun p2 hp2 => ⟨p2, rfl, ⟨_, SqL.of upd_same⟩, ?_⟩⟩
    generalize hB2 : upd _ p2 _ = B2
    have s8 : Same A7 B2 := by rw [← hB2]; exact same_up hp2
    have fB2 : B2 p2 = some (.lst [.non, .int 0, .ref l1, .ref l2, .ref l3, .ref l4, .ref l5, .ref l6, .ref l7]) := by rw [← hB2]; exact upd_same
    have g7 := s8 _ _ f7
    have g6 := s8 _ _ (s7 _ _ f6)
    have g5 := s8 _ _ (s7 _ _ (s6 _ _ f5))
    have g4 := s8 _ _ (s7 _ _ (s6 _ _ (s5 _ _ f4)))
    have g3 := s8 _ _ (s7 _ _ (s6 _ _ (s5 _ _ (s4 _ _ f3))))
    have g2 := s8 _ _ (s7 _ _ (s6 _ _ (s5 _ _ (s4 _ _ (s3 _ _ f2)))))
    have g1 := s8 _ _ (s7 _ _ (s6 _ _ (s5 _ _ (s4 _ _ (s3 _ _ (s2 _ _ f1))))))
    have sB2 : Same G1 B2 := ((((((s1.trans s2).trans s3).trans s4).trans s5).trans s6).trans s7).trans s8
    have fm : Fl (V.int (0 - 1)) (.int (-1)) := (show ((0 : Int) - 1) = -1 from by decide) ▸ Fl.int (-1)
    have ways : ∀ v ∈ [V.non, .int 0, .ref l1, .ref l2, .ref l3, .ref l4, .ref l5, .ref l6, .ref l7], ∃ e o, (∀ H1, LamX.ExtN B2 H1 → OdV H1 v e ∧ Tz K H1 v o) ∧ okT 5 o = false ∧ okT 3 o = false := by
      intro v hv
      simp only [List.mem_cons, List.not_mem_nil, or_false] at hv
      rcases hv with rfl | rfl | rfl | rfl | rfl | rfl | rfl | rfl | rfl
      · exact ⟨.none, none, fun H1 _ => ⟨odN H1, .no (fun _ _ => .base .non) (kit_ty (show kitB "NoneType" "tuple" = some false from by decide +kernel))⟩, rfl, rfl⟩
      · exact ⟨.int 0, none, fun H1 _ => ⟨.fl (odd_num (n := 0) (by decide)) (.int _), .no (fun _ _ => .base (.int 0)) (kit_ty (show kitB "int" "tuple" = some false from by decide +kernel))⟩, rfl, rfl⟩
      · exact ⟨.list [.int 0], none, fun H1 x => ⟨.lst (by simp [oddL]) (ext_at x g1) (.cons (.int _) .nil), .no (fun G s => .base (.lst (s _ _ (ext_at x g1)))) (kit_ty (show kitB "list" "tuple" = some false from by decide +kernel))⟩, rfl, rfl⟩
      · exact ⟨.tuple [.int 1, .int 0], _, fun H1 x => ⟨.tup (by simp [oddL, oddT]) (ext_tp x g2) (.cons (.int _) (.cons (.int _) .nil)), .tup (ext_tp x g2) (.cons (.int _) (.cons (.int _) .nil)) (by show 2 ≤ 100; decide)⟩, by decide +kernel, by decide +kernel⟩
      · exact ⟨.tuple [.int 0, .int 0], _, fun H1 x => ⟨.tup (by simp [oddL, oddT]) (ext_tp x g3) (.cons (.int _) (.cons (.int _) .nil)), .tup (ext_tp x g3) (.cons (.int _) (.cons (.int _) .nil)) (by show 2 ≤ 100; decide)⟩, by decide +kernel, by decide +kernel⟩
      · exact ⟨.tuple [.int 5], _, fun H1 x => ⟨.tup (by simp [oddL, oddT]) (ext_tp x g4) (.cons (.int _) .nil), .tup (ext_tp x g4) (.cons (.int _) .nil) (by show 1 ≤ 100; decide)⟩, by decide +kernel, by decide +kernel⟩
      · exact ⟨.tuple [.int (-1)], some [.int (-1)], fun H1 x => ⟨.tup (by simp [oddL, oddT]) (ext_tp x g5) (.cons fm .nil), .tup (ext_tp x g5) (.cons fm .nil) (by show 1 ≤ 100; decide)⟩, by decide +kernel, by decide +kernel⟩
      · exact ⟨.tuple [.bool true], _, fun H1 x => ⟨.tup (by simp [oddL, oddT]) (ext_tp x g6) (.cons (.bl _) .nil), .tup (ext_tp x g6) (.cons (.bl _) .nil) (by show 1 ≤ 100; decide)⟩, by decide +kernel, by decide +kernel⟩
      · exact ⟨.tuple [.str "0"], _, fun H1 x => ⟨.tup (by simp [oddL, oddT]) (ext_tp x g7) (.cons (.str _) .nil), .tup (ext_tp x g7) (.cons (.str _) .nil) (by show 1 ≤ 100; decide)⟩, by decide +kernel, by decide +kernel⟩
    have EB2 := E1.trans (LamX.ExtN.of sB2)
    have rl := refs_len W
    have bw : ∀ o, okT 5 o = false → badW (some (W.map (fun q => some (q.2.map PyData.int)) ++ [o, none])) = some (.int ((refs W).length : Nat)) := fun o no => by
      show (badAt _ 0).map V.int = _
      rw [badAt_here (j := W.length) (o := o) (fun k hk o' ho => ?_) (by rw [List.getElem?_append_right (by rw [List.length_map]; exact Nat.le_refl _), List.length_map, Nat.sub_self]; rfl) no, rl]
      · rfl
      · rw [List.getElem?_append_left (by rw [List.length_map]; exact hk), List.getElem?_map] at ho
        cases e : W[k]? with
        | none =>
          rw [e] at ho
          cases ho
        | some q =>
          rw [e] at ho
          cases ho
          exact okT_lot (fW q (List.mem_of_getElem? e))
    have odl : ∀ H1, OdV H1 (.int ((refs W).length : Nat)) (.int ((refs W).length : Nat)) := fun H1 => .fl (odd_num (by omega)) (.int _)
    have dueL : ∀ (σ : L2.St) (H1 : Hp) (Q' : VK), σ[0]? = some (some (.ref a)) → LamX.ExtN B2 H1 → (∀ p2 G2, Same H1 G2 → G2 p2 = some (outL "lot" (.int ((refs W).length : Nat))) → Q' (.ref p2) G2) → tLst (tCons (tC (V.str "lot")) (tCons (tCB rReprR (tCons (tCB (rLenQ K) (tCons (tVar 0) tNil)) tNil)) tNil)) σ H1 Q' := fun σ H1 Q' hσ x q' =>
      ⟨_, hσ, a, _, rfl, .inl (SqL.of (hW.ext (EB2.trans x)).1), _, .int ((refs W).length : Nat), rfl, (odl H1).2, (odd_ok (odl H1).1).1, by show 2 ≤ sizeLine; decide, fun p3 hp3 => q' p3 _ (same_up hp3) upd_same⟩
    refine for_list (K := K) (a := p2) (xs := [.non, .int 0, .ref l1, .ref l2, .ref l3, .ref l4, .ref l5, .ref l6, .ref l7]) (fun i σ G => (∃ x2, σ = [some (.ref a), some v0, x2]) ∧ LamX.ExtN B2 G ∧ LamX.Tabs Tb G) ⟨⟨_, rfl⟩, LamX.ExtN.refl _, t1.ext sB2⟩ (fun i σ G _ h => SqL.of (ext_at h.2.1 fB2)) ?_ ?_
    · rintro i v σ G hv ⟨⟨x2, rfl⟩, e2, t2⟩
      obtain ⟨e, o, hod, no5, no3⟩ := ways v (List.mem_of_getElem? hv)
      have tz0 : ∀ H1, Tz K H1 .non none := fun H1 => .no (fun _ _ => .base .non) (kit_ty (show kitB "NoneType" "tuple" = some false from by decide +kernel))
      refine if_tried (K := K) (w := "lot") (C := c.p) (e := .int ((refs W).length : Nat)) (v := .int ((refs W).length : Nat)) (.inl ⟨rfl, rfl⟩) t2 (fun E H1 Q' x r => ?_) (fun H1 _ => odl H1) (fun H1 Q' x q' => dueL _ H1 Q' rfl (e2.trans x) q') fun G3 e3 t3 => ?_
      · have hW1 := hW.ext (EB2.trans (e2.trans x))
        refine ⟨_, rfl, v, rfl, by show 2 ≤ sizeLine; decide, fun l hl => ⟨a, l, _, _, rfl, rfl, same_up hl _ _ hW1.1, upd_same, by rw [rl]; exact Nat.le_of_lt (small1000 (by show W.length + 2 ≤ 1000; omega)), fun p hp => ?_⟩⟩
        have sL := (same_up (o := .lst [v, .non]) hl).trans (same_up (o := .lst (refs W ++ [v, .non])) hp)
        exact ⟨.ref p, .non, .non, rfl, chk_bad (.lst upd_same ((tzl_lots (fun q hq => sL _ _ (hW1.2 q hq)) fW).app (.cons ((hod H1 (e2.trans x)).2.same sL) (.cons (tz0 _) .nil)))) (bw o no5) (r.same sL)⟩
      refine if_tried (K := K) (w := "lot") (C := c.p) (e := .int ((refs W).length : Nat)) (v := .int ((refs W).length : Nat)) (.inl ⟨rfl, rfl⟩) t3 (fun E H1 Q' x r => ?_) (fun H1 _ => odl H1) (fun H1 Q' x q' => dueL _ H1 Q' rfl ((e2.trans e3).trans x) q') fun G4 e4 t4 => ?_
      · have hW1 := hW.ext (EB2.trans ((e2.trans e3).trans x))
        refine ⟨_, rfl, _, rfl, v, rfl, by show 2 ≤ sizeLine; decide, fun l hl => ⟨a, l, _, _, rfl, rfl, same_up hl _ _ hW1.1, upd_same, by rw [rl]; exact Nat.le_of_lt (small1000 (by show W.length + 2 ≤ 1000; omega)), fun p hp => ?_⟩⟩
        have sL := (same_up (o := .lst [v, .non]) hl).trans (same_up (o := .lst (refs W ++ [v, .non])) hp)
        exact ⟨_, .ref p, .non, rfl, chk_lots (hW1.same sL).b fW (chk_bad (.lst upd_same ((tzl_lots (fun q hq => sL _ _ (hW1.2 q hq)) fW).app (.cons ((hod H1 ((e2.trans e3).trans x)).2.same sL) (.cons (tz0 _) .nil)))) (bw o no5) (r.same sL))⟩
      have e234 := (e2.trans e3).trans e4
      refine if_tried (K := K) (w := "lot") (C := c.p) (e := e) (v := v) (.inl ⟨rfl, rfl⟩) t4 (fun E H1 Q' x r => ?_) (fun H1 x => (hod H1 (e234.trans x)).1) (fun H1 Q' x q' => due_read rfl (hod H1 (e234.trans x)).1 q') fun G5 e5 t5 => ?_
      · have hW1 := hW.ext (EB2.trans (e234.trans x))
        exact ⟨_, rfl, _, rfl, v, rfl, _, _, v, rfl, chk_lots hW1.b fW (chk_lots hW1.b fW ⟨o, (hod H1 (e234.trans x)).2, (fun _ => r), fun ok => by rw [no5] at ok; cases ok⟩)⟩
      have e2345 := e234.trans e5
      refine if_tried (K := K) (w := "lot") (C := c.p) (e := e) (v := v) (.inl ⟨rfl, rfl⟩) t5 (fun E H1 Q' x r => ?_) (fun H1 x => (hod H1 (e2345.trans x)).1) (fun H1 Q' x q' => due_read rfl (hod H1 (e2345.trans x)).1 q') fun G6 e6 t6 => ⟨⟨_, rfl⟩, e2345.trans e6, t6⟩
      exact ⟨v, rfl, _, _, _, v, rfl, cks_ok (by decide) (by decide) (by decide) (by decide) (by decide) (by decide) ⟨o, (hod H1 (e2345.trans x)).2, (fun _ => r), fun ok => by rw [no3] at ok; cases ok⟩⟩
    rintro σ G3 ⟨⟨x2, rfl⟩, e2, t2⟩
    have E3 := EB2.trans e2
    refine ⟨by show 4 ≤ sizeLine; decide, fun p3 hp3 => ⟨p3, rfl, ⟨_, SqL.of upd_same⟩, ?_⟩⟩
    generalize hB3 : upd _ p3 _ = B3
    have sB3 : Same G3 B3 := by rw [← hB3]; exact same_up hp3
    have fB3 : B3 p3 = some (.lst [.non, .int 0, .int 6, .bl true]) := by rw [← hB3]; exact upd_same
    have ods3 : ∀ v ∈ [V.non, .int 0, .int 6, .bl true], ∃ e, Fl v e ∧ e ∈ oddL ∧ within e 1 5 = false := by
      intro v hv
      simp only [List.mem_cons, List.not_mem_nil, or_false] at hv
      rcases hv with rfl | rfl | rfl | rfl
      · exact ⟨.none, .non, by simp [oddL], rfl⟩
      · exact ⟨.int 0, .int _, odd_num (n := 0) (by decide), within_lo (by decide)⟩
      · exact ⟨.int 6, .int _, odd_num (n := 6) (by decide), within_hi (by decide)⟩
      · exact ⟨.bool true, .bl _, by simp [oddL], rfl⟩
    refine for_list (K := K) (a := p3) (xs := [.non, .int 0, .int 6, .bl true]) (fun i σ G => (∃ x2, σ = [some (.ref a), some v0, x2]) ∧ LamX.ExtN B3 G ∧ LamX.Tabs Tb G) ⟨⟨_, rfl⟩, LamX.ExtN.refl _, t2.ext sB3⟩ (fun i σ G _ h => SqL.of (ext_at h.2.1 fB3)) ?_ ?_
    · rintro i v σ G hv ⟨⟨x2, rfl⟩, e3, t3⟩
      obtain ⟨e, f, m, nn⟩ := ods3 v (List.mem_of_getElem? hv)
      refine if_tried (K := K) (w := "count") (C := c.n) (e := e) (v := v) (.inr ⟨rfl, rfl⟩) t3 (fun E H1 Q' x r => ⟨v, rfl, v, .non, .non, .non, rfl, e, ck_odd f nn r⟩) (fun H1 _ => .fl m f) (fun H1 Q' _ q' => due_read rfl (.fl m f) q') fun G4 e4 t4 => ?_
      refine if_tried (K := K) (w := "count") (C := c.n) (e := e) (v := v) (.inr ⟨rfl, rfl⟩) t4 (fun E H1 Q' x r => ⟨v, rfl, _, v, .non, .non, rfl, _, ck_int (by decide) (by decide) fun c' ec _ _ => ⟨e, ck_odd f (by cases ec; exact nn) r⟩⟩) (fun H1 _ => .fl m f) (fun H1 Q' _ q' => due_read rfl (.fl m f) q') fun G5 e5 t5 => ?_
      exact if_tried (K := K) (w := "count") (C := c.n) (e := e) (v := v) (.inr ⟨rfl, rfl⟩) t5 (fun E H1 Q' x r => ⟨v, rfl, _, _, v, .non, rfl, _, ck_int (by decide) (by decide) fun c' ec _ _ => ⟨_, ck_int (by decide) (by cases ec; decide) fun r' er _ _ => ⟨e, ck_odd f (by cases ec; exact nn) r⟩⟩⟩) (fun H1 _ => .fl m f) (fun H1 Q' _ q' => due_read rfl (.fl m f) q') fun G6 e6 t6 => ⟨⟨_, rfl⟩, ((e3.trans e4).trans e5).trans e6, t6⟩
    rintro σ G4 ⟨⟨x2, rfl⟩, e3, t3⟩
    have E4 := (E3.trans (LamX.ExtN.of sB3)).trans e3
    have m2 : PyData.tuple [.int 2] ∈ oddL := by simp [oddL, oddT]
    refine ⟨t3, fun H1 eN T1 => ⟨by show 1 ≤ sizeLine; decide, fun l hl => ?_⟩⟩
    have u1 := same_up (o := .tup [.int 2]) hl
    have w1 : upd H1 l (.tup [.int 2]) l = some (.tup [.int 2]) := upd_same
    refine ⟨_, _, _, .ref l, rfl, cks_ok (by decide) (by decide) (by decide) (by decide) (by decide) (by decide) ⟨some [.int 2], .tup w1 (.cons (.int _) .nil) (by show 1 ≤ 100; decide), (fun _ dd H' s' hd => ?_), fun ok => ?_⟩⟩
    · refine ⟨dd, .ref l, _, "lot", .inl ⟨rfl, rfl⟩, rfl, hd, OdV.tup m2 (s' _ _ w1) (.cons (.int _) .nil), fun p hp => ?_⟩
      have s9 := same_up (o := outL "lot" (.tuple [.int 2])) hp
      have w9 : upd H' p (outL "lot" (.tuple [.int 2])) p = some (outL "lot" (.tuple [.int 2])) := upd_same
      generalize upd H' p (outL "lot" (.tuple [.int 2])) = A9 at s9 w9 ⊢
      refine ⟨by show 1 ≤ sizeLine; decide, fun l8 hl8 => ?_⟩
      have u3 := same_up (o := .tup [.int 2]) hl8
      have w3 : upd A9 l8 (.tup [.int 2]) l8 = some (.tup [.int 2]) := upd_same
      generalize upd A9 l8 (.tup [.int 2]) = A10 at u3 w3 ⊢
      refine ⟨_, _, rfl, (OdV.tup m2 w3 (.cons (.int _) .nil)).2, (odd_ok m2).1, by show 2 ≤ sizeLine; decide, fun p5 hp5 => ?_⟩
      have u5 := same_up (o := outL "lot" (.tuple [.int 2])) hp5
      have sA := (((u1.trans s').trans s9).trans u3).trans u5
      exact eq_lists (by simp [wordL]) m2 (u5 _ _ (u3 _ _ w9)) upd_same (q _ ((E4.trans eN).trans (LamX.ExtN.of sA)) (T1.ext sA))
    · have no : okT 2 (some [.int 2]) = false := by decide +kernel
      rw [no] at ok
      cases ok
end
end Pl

namespace Pl
open L2 PySem PySem.Spec PyProof.Rows RZ
structure DfG (P : Program) (w : World) (K : PySem.W.Frag) (mg : Str → Option Value) (base : Heap) (k : Nat) (x : Str) (ps : List Str) (sp : Sp) : Prop where
  ex : ∃ (f : Addr) (fd : FuncData), FnG P w K mg base k f fd ps sp ∧ mg x = some (.ref f) ∧ PySem.W.keepIn K (.ref f) = true ∧ Binds K fd ps []
def spLaw (K : PySem.W.Frag) (Tb : TbL) : Sp := fun vs H Q _ => ∃ (a : Addr) (ns : List Int), vs = [.ref a] ∧ SqL K H a (ns.map V.int) ∧ LamX.Tabs Tb H ∧ ∀ H', Q (.bl true) H'
theorem tabs_but {z : Addr} {Tb : TbL} {H G : Hp} (b : But z H G) (s : Src z H) (t : LamX.Tabs Tb H) : LamX.Tabs Tb G := by
  obtain ⟨x, y, hz, _⟩ := s
  intro p hp
  obtain ⟨ps, h1, h2, h3⟩ := t p hp
  have n1 : p.1 ≠ z := fun e => by
    rw [e, hz] at h1
    cases h1
  refine ⟨ps, b _ _ n1 trivial h1, h2, fun pos cv hc => ?_⟩
  obtain ⟨c, e1, e2⟩ := h3 pos cv hc; skip
  have n2 : c ≠ z := fun e => by
    rw [e, hz] at e2
    cases e2
  exact ⟨c, e1, b _ _ n2 trivial e2⟩
theorem ext_but {z : Addr} {H G F : Hp} (e : LamX.ExtN H G) (hz : ∀ b o, H b = some o → (∀ ps, o ≠ .tbl ps) → b ≠ z) (b : But z G F) : LamX.ExtN H F := fun c o h n => b c o (hz c o h n) trivial (e c o h n)
theorem sql_ext {K : PySem.W.Frag} {H G : Hp} {a : Addr} {xs : List V} (e : LamX.ExtN H G) (h : SqL K H a xs) : SqL K G a xs := by
  rcases h with (h | ⟨o, h⟩) | h; skip
  · exact .inl (.inl (e _ _ h fun _ q => by cases q))
  · exact .inl (.inr ⟨o, e _ _ h fun _ q => by cases q⟩)
  · exact .inr h
theorem lots_z {z p : Addr} {H G : Hp} {L : List AT} (h : Lots H p L) (s : Src z H) (b : But z H G) : Lots G p L := by
  obtain ⟨x, y, hz, _⟩ := s
  by_cases e : p = z
  · subst e
    have h1 := h.1
    rw [hz] at h1
    have h2 := HO.lst.inj (Option.some.inj h1)
    exfalso
    cases L with
    | nil => cases h2
    | cons q L => cases h2
  · refine ⟨b _ _ e trivial h.1, fun q hq => b _ _ (fun e => ?_) trivial (h.2 q hq)⟩
    have h1 := h.2 q hq
    rw [e, hz] at h1
    cases h1
theorem tup_z {z p : Addr} {H G : Hp} {xs : List V} (h : H p = some (.tup xs)) (s : Src z H) (b : But z H G) : G p = some (.tup xs) := by
  obtain ⟨x, y, hz, _⟩ := s
  refine b _ _ (fun e => ?_) trivial h
  rw [e, hz] at h
  cases h
/-- so many drawn lots lie in the list at D -/
def DrawnL (z D : Addr) (n : Int) (G : Hp) (j : Nat) (F : Hp) : Prop := ∃ M : List AT, M.length = j ∧ (∀ q ∈ M, Lot n q.2) ∧ But z G F ∧ Src z F ∧ Lots F D M
theorem DrawnL.start {z D : Addr} {n : Int} {G : Hp} (hD : G D = none) (Dz : D ≠ z) (hz : Src z G) : DrawnL z D n G 0 (upd G D (.lst [])) :=
  ⟨[], rfl, (fun b hb => by cases hb), But.new hD, hz.upd Dz, upd_same, fun q hq => by cases hq⟩
theorem DrawnL.next {z D t : Addr} {n : Int} {j : Nat} {G F F2 : Hp} {l : Z} (h : DrawnL z D n G j F) (hD : G D = none) (Dz : D ≠ z) (b : But z F F2) (s : Src z F2) (ht : F2 t = some (.tup (l.map V.int))) (fl : Lot n l) (lj : j ≤ 100) : ∃ acc, F2 D = some (.lst acc) ∧ acc.length < sizeLine ∧ DrawnL z D n G (j + 1) (upd F2 D (.lst (acc ++ [.ref t]))) := by
  obtain ⟨M, lM, fM, bF, zF, hM⟩ := h
  have hM2 := lots_z hM zF b
  refine ⟨_, hM2.1, small1000 (by rw [refs_len]; omega), M ++ [(t, l)], by rw [List.length_append, lM]; rfl, fun q hq => ?_, But.sup hD (bF.trans b), s.upd Dz, lots_app (q := (t, l)) hM2 ht⟩
  rcases List.mem_append.mp hq with h | h
  · exact fM q h
  · rw [List.mem_singleton] at h
    rw [h]
    exact fl
section
variable {P : Program} {w : World} {K : PySem.W.Frag} {mg : Str → Option Value} {base : Heap} {CN CL : Addr} {Tb : TbL}
abbrev nW : List Str := ["_law_script", "_law_k", "_law_source", "_law_count", "_law_writes_here", "_law_reads_here", "_law_bad", "_law_read_size", "_law_write_size", "_law_due", "_law_turn"]
theorem scLaw : FnScope nW ["_law_script"] (defScope sLaw) := ⟨rfl, rfl, rfl, by decide +kernel, rfl, by decide +kernel, by decide +kernel⟩
theorem ok_law {f : Addr} {fd : FuncData} (F : Fun K "law" "law" sLaw f fd) (T : Cst mg) (DP : Df P w K mg base 1 "_law_pool" ["_law_script", "_law_k"] (spPool K)) (DT : Df P w K mg base 1 "_law_take" ["_law_source", "_law_top"] spTake) (DD : Df P w K mg base 2 "_law_lot" ["_law_source", "_law_copies_here"] spDraw)
    (DR : Df P w K mg base 7 "_law_lots_right" psLL (spRight Tb)) (DF : DfG P w K mg base 9 "_law_refused" ["_law_good", "_law_bad"] (spRefused Tb)) (DA : Df P w K mg base 1 "_law_all_lots" ["_law_copies_here", "_law_size"] spLAll) (DL : Df P w K mg base 4 "_law_least" psLL (spLLeast Tb)) (DB : DfX P w K mg base 5 "bars_by_count" ps4 (spByC K Tb CN CL)) : FnG P w K mg base 10 f fd ["_law_script"] (spLaw K Tb) := by
  obtain ⟨gP, fdP, GP, mP, kP, bP⟩ := DP.ex
  obtain ⟨gT, fdT, GT, mT, kT, bT⟩ := DT.ex
  obtain ⟨gD, fdD, GD, mD, kD, bD⟩ := DD.ex
  obtain ⟨gR, fdR, GR, mR, kR, bR⟩ := DR.ex
  obtain ⟨gF, fdF, GF, mF, kF, bF⟩ := DF.ex
  obtain ⟨gA, fdA, GA, mA, kA, bA⟩ := DA.ex
  obtain ⟨gL, fdL, GL, mL, kL, bL⟩ := DL.ex
  obtain ⟨gB, fdB, GB, mB, kB, bB⟩ := DB.ex
  refine okG F scLaw (fun vs H Q E h => ?_) (fun cdv A outer s H vs Q E hgd hr h => ?_)
  · obtain ⟨a, ns, rfl, _⟩ := h
    rfl
  · obtain ⟨a, ns, rfl, hS, hT, q⟩ := h
    have hu : (A.deeper (envOfC "law" (defScope sLaw) s.heap.objs.size f cdv)).units + 64 < cLine := by
      have := hr.un
      omega
    refine ⟨_, pss_cons (ps_for PassesOwn.never rfl (pi_range1 rfl T.rng (pa_cons (pe_callB (call_max2 rfl) (by rfl) T.max_ (by decide +kernel) (pa_cons pe_int (pa_cons (pe_callB (call_min2 rfl) (by rfl) T.min_ (by decide +kernel) (pa_cons pe_int (pa_cons (pe_callB call_len_seq (by rfl) T.len PySem.boot_len (pa_cons (pv 0) pa_nil)) pa_nil))) pa_nil))) pa_nil)) (pg_name (i := 1) scLaw.nd rfl (Or.inl rfl))
        (pss_cons (ps_set (i := 2) scLaw.nd rfl (Or.inr rfl) (pe_call GP (hr.mono (by decide)) (by rfl) mP kP bP .nil pass0 (pa_cons (pv 0) (pa_cons (pv 1) pa_nil))))
        (pss_cons (ps_set (i := 3) scLaw.nd rfl (Or.inr rfl) (pe_op op_add pe_int (pe_call GT (hr.mono (by decide)) (by rfl) mT kT bT .nil pass0 (pa_cons (pv 2) (pa_cons pe_int pa_nil)))))
        (pss_cons (ps_setLc (i := 4) (own := [("_law_turn", 10)]) (g := gName 10) (tt := tYes) rfl scLaw.nd rfl rfl (sw_true rfl rfl rfl (by decide +kernel)) (pi_range1 (by rfl) T.rng (pa_cons (pe_call GT (hr.mono (by decide)) (by rfl) mT kT bT .nil pass0 (pa_cons (pv 2) (pa_cons pe_int pa_nil))) pa_nil)) (blkOk_by (own := [("_law_turn", 10)]) (N := nW) (sc := defScope sLaw) (by decide +kernel))
            (fun _ _ _ _ _ => pg_name (i := 10) scLaw.nd rfl (Or.inl rfl)) (fun _ _ _ _ _ => pts_nil) (fun _ _ _ _ _ => pe_call GD (hr.mono (by decide)) (by rfl) mD kD bD .nil pass0 (pa_cons (pv 2) (pa_cons (pv 3) pa_nil))))
        (pss_cons (ps_setLc (i := 5) (own := [("_law_turn", 10)]) (g := gName 10) (tt := tYes) rfl scLaw.nd rfl rfl (sw_true rfl rfl rfl (by decide +kernel)) (pi_range1 (by rfl) T.rng (pa_cons (pe_call GT (hr.mono (by decide)) (by rfl) mT kT bT .nil pass0 (pa_cons (pv 2) (pa_cons pe_int pa_nil))) pa_nil)) (blkOk_by (own := [("_law_turn", 10)]) (N := nW) (sc := defScope sLaw) (by decide +kernel))
            (fun _ _ _ _ _ => pg_name (i := 10) scLaw.nd rfl (Or.inl rfl)) (fun _ _ _ _ _ => pts_nil) (fun _ _ _ _ _ => pe_call GD (hr.mono (by decide)) (by rfl) mD kD bD .nil pass0 (pa_cons (pv 2) (pa_cons (pv 3) pa_nil))))
        (pss_cons (ps_set (i := 6) scLaw.nd rfl (Or.inl rfl) (pe_call GD (hr.mono (by decide)) (by rfl) mD kD bD .nil pass0 (pa_cons (pv 2) (pa_cons (pv 3) pa_nil))))
        (pss_cons (ps_if (pt_not (pt_val (pe_call GR (hr.mono (by decide)) (by rfl) mR kR bR .nil pass0 (pa_cons (pv 4) (pa_cons (pv 5) (pa_cons (pv 6) pa_nil)))))) (pss_one (ps_ret pe_bl)) pss_nil)
        (pss_cons (ps_if (pt_not (pt_val (pe_callG GF hgd hr (by rfl) mF kF bF (pa_cons (pv 4) (pa_cons (pv 6) pa_nil))))) (pss_one (ps_ret pe_bl)) pss_nil)
        (pss_cons (ps_par (i := 7) (j := 8) (by rfl) scLaw.nd rfl rfl (by decide) rfl rfl (pa_cons (pe_op op_add pe_int (pe_call GT (hr.mono (by decide)) (by rfl) mT kT bT .nil pass0 (pa_cons (pv 2) (pa_cons (pv 3) pa_nil)))) (pa_cons (pe_op op_add pe_int (pe_call GT (hr.mono (by decide)) (by rfl) mT kT bT .nil pass0 (pa_cons (pv 2) (pa_cons (pv 3) pa_nil)))) pa_nil)) (by rfl))
        (pss_cons (ps_set (i := 9) scLaw.nd rfl (Or.inl rfl) (pe_call GL (hr.mono (by decide)) (by rfl) mL kL bL .nil pass0 (pa_cons (pe_call GA (hr.mono (by decide)) (by rfl) mA kA bA .nil pass0 (pa_cons (pv 3) (pa_cons (pv 8) pa_nil))) (pa_cons (pe_call GA (hr.mono (by decide)) (by rfl) mA kA bA .nil pass0 (pa_cons (pv 3) (pa_cons (pv 7) pa_nil))) (pa_cons (pv 6) pa_nil)))))
        (pss_one (ps_if (pt_cmpR (show OpR _ (compareOp .NotEq) (rNeD K) from op_neD hu) (pe_call (E := fun _ _ _ => False) GB (hr.mono (by decide)) (by rfl) mB kB bB .nil (passes_call takes0 fun _ _ _ _ h => h) (pa_cons (pv 3) (pa_cons (pv 7) (pa_cons (pv 8) (pa_cons (pv 6) pa_nil))))) (pv 9) (nomark _)) (pss_one (ps_ret pe_bl)) pss_nil))))))))))))
      (pss_one (ps_ret pe_bl)), ?_⟩
    have hN6 : ∀ L : Int, ∃ N : Nat, N ≤ 4 ∧ (if (if L < 4 then L else 4) > 1 then (if L < 4 then L else 4) else 1) = (N : Int) := fun L => by
      refine ⟨(if (if L < 4 then L else 4) > 1 then (if L < 4 then L else 4) else 1).toNat, ?_, ?_⟩ <;> (split <;> split <;> omega)
    obtain ⟨N, hN, eN⟩ := hN6 ((ns.map V.int).length : Nat)
    refine ⟨_, rfl, a, _, rfl, .inl hS, _, _, rfl, _, _, rfl, ?_⟩
    refine ⟨(N : Int), by rw [eN], by omega, by omega, ?_⟩
    refine for_range (n := N) (fun i σ G => (∃ x1 x2 x3 x4 x5 x6 x7 x8 x9, σ = [some (.ref a), x1, x2, x3, x4, x5, x6, x7, x8, x9, none]) ∧ LamX.ExtN H G ∧ LamX.Tabs Tb G) ⟨⟨_, _, _, _, _, _, _, _, _, rfl⟩, LamX.ExtN.refl _, hT⟩ ?_ ?_
    · rintro i σ G hi ⟨⟨x1, x2, x3, x4, x5, x6, x7, x8, x9, rfl⟩, e1, t1⟩
      refine ⟨_, rfl, _, rfl, a, ns, _, rfl, sql_ext e1 hS, by omega, by omega, fun z G1 nz s1 z1 => ?_⟩
      have nz0 : ∀ b o, H b = some o → (∀ ps, o ≠ .tbl ps) → b ≠ z := fun b o h no => ne_of_none (e1 _ _ h no) nz
      have eG : LamX.ExtN H G1 := e1.trans (LamX.ExtN.of s1)
      have tG := t1.ext s1
      refine ⟨_, rfl, z, 5, rfl, z1, by omega, by omega, fun r G2 r0 r1 b2 z2 => ?_⟩
      have e2 := ext_but eG nz0 b2
      have t2 := tabs_but b2 z1 tG
      obtain ⟨n, hn⟩ : ∃ n : Int, (1 : Int) + r = n := ⟨_, rfl⟩
      have n1 : 1 ≤ n := by omega
      have n5 : n ≤ 5 := by omega
      refine rI0_to (v := V.int n) (congrArg V.int hn) ?_
      refine ⟨_, rfl, z, 5, rfl, z2, by omega, by omega, fun r2 G3 p0 p1 b3 z3 => ⟨r2, rfl, by omega, by omega, fun B hB => ?_⟩⟩
      have e3 := ext_but e2 nz0 b3
      have t3 := tabs_but b3 z2 t2
      obtain ⟨oz, hoz⟩ := z3.some
      have Bz : B ≠ z := (ne_of_none hoz hB).symm
      refine walk_core (walk_range (lo := 0) (n := r2.toNat)) (DrawnL z B n G3) (DrawnL.start hB Bz z3) (fun _ _ _ _ => trivial) ?_ ?_
      · rintro j y F F' hj hd ⟨rfl, rfl⟩
        have hd2 := hd
        obtain ⟨_, _, _, _, zF, _⟩ := hd2
        exact ⟨rfl, _, rfl, _, rfl, z, n, rfl, zF, by omega, n5, fun t l F2 b4 z4 ht ft fl => hd.next hB Bz b4 z4 ft fl (by omega)⟩
      rintro G4 ⟨W, lW, fW, b4, z4, hW⟩
      have e4 := ext_but e3 nz0 b4
      have t4 := tabs_but b4 z3 t3
      refine ⟨_, rfl, z, 5, rfl, z4, by omega, by omega, fun r3 G5 p2 p3 b5 z5 => ⟨r3, rfl, by omega, by omega, fun B2 hB2 => ?_⟩⟩
      have e5 := ext_but e4 nz0 b5
      have t5 := tabs_but b5 z4 t4
      have hW5 := lots_z hW z4 b5
      obtain ⟨oz2, hoz2⟩ := z5.some
      have B2z : B2 ≠ z := (ne_of_none hoz2 hB2).symm
      refine walk_core (walk_range (lo := 0) (n := r3.toNat)) (DrawnL z B2 n G5) (DrawnL.start hB2 B2z z5) (fun _ _ _ _ => trivial) ?_ ?_
      · rintro j y F F' hj hd ⟨rfl, rfl⟩
        have hd2 := hd
        obtain ⟨_, _, _, _, zF, _⟩ := hd2
        exact ⟨rfl, _, rfl, _, rfl, z, n, rfl, zF, by omega, n5, fun t l F2 b4 z4 ht ft fl => hd.next hB2 B2z b4 z4 ft fl (by omega)⟩
      rintro G6 ⟨R, lR, fR, b6, z6, hR⟩
      have e6 := ext_but e5 nz0 b6
      have t6 := tabs_but b6 z5 t5
      have hW6 := lots_z hW5 z5 b6
      refine ⟨_, rfl, _, rfl, z, n, rfl, z6, by omega, n5, fun bd u G7 b7 z7 nbd hbd fu => ?_⟩
      have e7 := ext_but e6 nz0 b7
      have t7 := tabs_but b7 z6 t6
      have hW7 := lots_z hW6 z6 b7
      have hR7 := lots_z hR z6 b7
      have f5W : ∀ q ∈ W, Lot 5 q.2 := fun q hq => (fW q hq).mono n5
      have f5R : ∀ q ∈ R, Lot 5 q.2 := fun q hq => (fR q hq).mono n5
      refine ⟨_, rfl, _, rfl, _, rfl, B, B2, bd, W, R, u, rfl, hW7, hR7, by omega, by omega, f5W, f5R, hbd, fu.mono n5, t7, fun G8 e8 t8 => ⟨_, rfl, iteF ?_⟩⟩
      refine ⟨_, rfl, _, rfl, B, .ref bd, W, rfl, hW7.ext e8, by omega, f5W, t8, fun G9 e9 t9 => ⟨_, rfl, iteF ?_⟩⟩
      have e89 := e8.trans e9
      have z9 := z7.ext e89
      have hbd9 := e89 _ _ hbd (fun _ q => by cases q)
      have eH9 := e7.trans e89
      refine ⟨_, rfl, _, rfl, z, n, rfl, z9, by omega, by omega, fun r4 G10 q0 q1 b10 z10 => ?_⟩
      refine rI0_to (v := V.int (1 + r4)) rfl ?_
      refine ⟨_, rfl, _, rfl, z, n, rfl, z10, by omega, by omega, fun r5 G11 q2 q3 b11 z11 => ?_⟩
      refine rI0_to (v := V.int (1 + r5)) rfl ?_
      have b911 := b10.trans b11
      have e11 := ext_but eH9 nz0 b911
      have t11 := tabs_but b911 z9 t9
      have hbd11 := tup_z hbd9 z9 b911
      refine ⟨_, _, rfl, _, rfl, _, rfl, n, 1 + r5, rfl, by omega, n5, fun pW WL G12 s12 hWL pmW => ?_⟩
      refine ⟨_, rfl, _, rfl, n, 1 + r4, rfl, by omega, n5, fun pR RL G13 s13 hRL pmR => ?_⟩
      have s123 := s12.trans s13
      have hbd13 := s123 _ _ hbd11
      have t13 := t11.ext s123
      have e13 := e11.trans (LamX.ExtN.of s123)
      have fWL : ∀ q ∈ WL, q.2.length ≤ 5 := fun q hq => ((ofSize_lot (pmW.mem_iff.mp (List.mem_map.mpr ⟨q, hq, rfl⟩))).mono n5).len
      refine ⟨_, rfl, pW, pR, bd, WL, RL, u, rfl, hWL.same s13, hRL, fWL, hbd13, fu.mono n5, t13, fun pD DL G14 e14 t14 hDL eDL => ?_⟩
      have e1314 := e13.trans e14
      have hbd14 := e14 _ _ hbd13 (fun _ q => by cases q)
      refine ⟨_, rfl, _, rfl, _, rfl, _, rfl, .int n, .int (1 + r4), .int (1 + r5), .ref bd, rfl, cks_ok n1 n5 (by omega) (by omega) (by omega) (by omega) ⟨_, Tz.lot hbd14 (by have := (fu.mono n5).len; omega), (fun no => by rw [okT_lot fu] at no; cases no), fun _ => ⟨bd, u, rfl, hbd14, fu, t14, fun pB BL G15 e15 t15 hBL eBL => ?_⟩⟩⟩
      refine ⟨_, rfl, datZs (BL.map (·.2)), datZs (DL.map (·.2)), dp_Zs hBL, dp_Zs (hDL.ext e15), shaped_Zs _, shaped_Zs _, ⟨_, rfl, ?_⟩⟩
      have ev : PyData.eqv (datZs (BL.map (·.2))) (datZs (DL.map (·.2))) = true := by
        show PyData.eqvAll _ _ = true
        rw [eqv_Zs, eBL, eDL]
        exact decide_eq_true (leastS_congr (fun b => safe_mem (fun l => pmW.mem_iff.symm) (fun l => pmR.mem_iff.symm) fun x => Iff.rfl) u)
      rw [ev]
      exact iteF ⟨⟨_, _, _, _, _, _, _, _, _, rfl⟩, e1314.trans e15, t15⟩
    · rintro σ G ⟨_, _, _⟩
      exact q G
end
end Pl

namespace Pl
open L2 PySem PySem.Spec PyProof.Rows
/-- a def of the top, under its name -/
def AtD (K : PySem.W.Frag) (x : Str) (st : Stmt) : Prop := ∃ (f : Addr) (fd : FuncData), PySem.W.nsIn K mainGlobals x = some (some (.ref f)) ∧ Fun K x x st f fd
def tbX (cs : List (Addr × Addr)) (a b c : Str) : TbL := (cs.map fun q => q.2).zip [a, b, c]
theorem tbX3 {c1 c2 c3 P1 P2 P3 : Addr} {a b c : Str} : tbX [(c1, P1), (c2, P2), (c3, P3)] a b c = [(P1, a), (P2, b), (P3, c)] := rfl
def tbOf (cs : List (Addr × Addr)) : TbL := tbX cs lamA lamP lamR
section
variable {α β : Type} {p q r : α × β} {P1 P2 P3 : α} {a b c : β}
theorem hm1 : p ∈ [p, q, r] := List.mem_cons_self
theorem hm2 : q ∈ [p, q, r] := List.mem_cons_of_mem _ List.mem_cons_self
theorem hm3 : r ∈ [p, q, r] := List.mem_cons_of_mem _ (List.mem_cons_of_mem _ List.mem_cons_self)
theorem hu1 (h12 : P1 ≠ P2) (h13 : P1 ≠ P3) : ∀ t ∈ [(P1, a), (P2, b), (P3, c)], t.1 = P1 → t.2 = a := fun t ht e => by
  simp only [List.mem_cons, List.not_mem_nil, or_false] at ht
  rcases ht with h | h | h
  · subst h; exact rfl
  · subst h; exact absurd e.symm h12
  · subst h; exact absurd e.symm h13
theorem hu2 (h12 : P1 ≠ P2) (h23 : P2 ≠ P3) : ∀ t ∈ [(P1, a), (P2, b), (P3, c)], t.1 = P2 → t.2 = b := fun t ht e => by
  simp only [List.mem_cons, List.not_mem_nil, or_false] at ht
  rcases ht with h | h | h
  · subst h; exact absurd e h12
  · subst h; exact rfl
  · subst h; exact absurd e.symm h23
theorem hu3 (h13 : P1 ≠ P3) (h23 : P2 ≠ P3) : ∀ t ∈ [(P1, a), (P2, b), (P3, c)], t.1 = P3 → t.2 = c := fun t ht e => by
  simp only [List.mem_cons, List.not_mem_nil, or_false] at ht
  rcases ht with h | h | h
  · subst h; exact absurd e h13
  · subst h; exact absurd e h23
  · subst h; exact rfl
end
theorem all3 {p : Addr × Addr → Prop} {a b c : Addr × Addr} (h1 : p a) (h2 : p b) (h3 : p c) : ∀ q ∈ [a, b, c], p q := fun q hq => by
  simp only [List.mem_cons, List.not_mem_nil, or_false] at hq
  rcases hq with rfl | rfl | rfl
  · exact h1
  · exact h2
  · exact h3
theorem tbOf_tabs {cs : List (Addr × Addr)} {H : Hp} (h : ∀ q ∈ cs, H q.2 = some (.tbl #[])) : LamX.Tabs (tbOf cs) H := fun p hp => by
  obtain ⟨a, b⟩ := p
  obtain ⟨q, hq, e⟩ := List.mem_map.mp (List.of_mem_zip hp).1
  have e' : q.2 = a := e
  exact LamX.TabS.nil (e' ▸ h q hq)
theorem walkP {l : PySem.W.OpenLaw} {n : Nat} {qp : Program} {loose : List Str} {XP : (Str → Option Value) → Heap → Prop} {YP : World → Heap → Prop} {d : DefRec} {K : Params → PySem.W.Frag}
    (hn : l.most = some n) (hn2 : n ≤ sizeLine) (hdf : d.params.defaults = []) (hY : ∀ (w : World) (h : Heap), YP w h → (K w.params).In h)
    (F : ∀ (w : World) (mg : Str → Option Value) (fa : Addr) (h : Heap), YP w h → (K w.params).In h → h.Ns mainGlobals mg → mg d.name = some (.ref fa) → LawM l w (K w.params) mg fa h 10 (fun cs => spLaw (K w.params) (tbOf cs))) :
    PySem.W.WalkO qp loose XP YP l.row.toRowW d [] (fun f vs => PySem.call f vs) :=
  walkM (sp := fun w cs => spLaw (K w.params) (tbOf cs)) hn hn2 hdf ⟨rfl, by decide, by decide⟩ hY (fun w cs H a ns hH seq => ⟨a, ns, rfl, seq, tbOf_tabs hH, fun _ => rfl⟩) F
theorem all_mk {l : PySem.W.OpenLaw} {w : World} {K : PySem.W.Frag} {h : Heap} {mg : Str → Option Value} {fa : Addr} (X : K.In h) (G : h.Ns mainGlobals mg) (hfa : mg "law" = some (.ref fa))
    {tk1 tk2 : Tok} {ft1 ct1 Pt1 : Addr} {odt1 ant1 odc1 : Option Addr} {slt1 slc1 : Array (Option Value)} {oct1 kVt1 dct1 pmt1 ctt1 : Value} {vsC1 : Array Value} {ft2 ct2 Pt2 : Addr} {odt2 ant2 odc2 : Option Addr} {slt2 slc2 : Array (Option Value)} {oct2 kVt2 dct2 pmt2 ctt2 : Value} {vsC2 : Array Value} {ft3 ct3 Pt3 : Addr} {odt3 ant3 odc3 : Option Addr} {slt3 slc3 : Array (Option Value)} {oct3 kVt3 dct3 pmt3 ctt3 : Value} {vsC3 : Array Value} {C_n fI_n S_n N_n : Addr} {odI_n anI_n dd_n : Option Addr} {slI_n : Array (Option Value)} {ocI_n kVI_n dcI_n pmI_n cdI_n ctI_n : Value} {nm_n q_n : Str} {bs_n sub_n : List Value} {sn_n : List Str} {ab_n : Bool} {col_n : Option Bool} {u0_n u1_n u2_n u3_n u5_n : Option Value} {C_p fI_p S_p N_p : Addr} {odI_p anI_p dd_p : Option Addr} {slI_p : Array (Option Value)} {ocI_p kVI_p dcI_p pmI_p cdI_p ctI_p : Value} {nm_p q_p : Str} {bs_p sub_p : List Value} {sn_p : List Str} {ab_p : Bool} {col_p : Option Bool} {u0_p u1_p u2_p u3_p u5_p : Option Value}
    (A0 : AtD K "is_number" sIsNumber)
    (A1 : AtD K "is_within" sIsWithin)
    (A2 : AtD K "is_lot" sIsLot)
    (A3 : AtD K "check_lot" sCkLot)
    (A4 : AtD K "in_common" sCommon)
    (A5 : AtD K "are_safe" sAreSafe)
    (A6 : AtD K "least_bars" sLeastB)
    (A7 : AtD K "bars_by_count" sByCount)
    (A8 : AtD K "check_counts" sCounts)
    (A9 : AtD K "_check_count" sCheck)
    (A10 : AtD K "_check_told" sCkTold)
    (A11 : AtD K "_of_size" sOfSize)
    (A12 : AtD K "_shared_lots" sShared)
    (A13 : AtD K "_is_had" sHad)
    (A14 : AtD K "_least_bars" sLB)
    (A15 : AtD K "_law_pool" sPool)
    (A16 : AtD K "_law_take" sTake)
    (A17 : AtD K "_law_lot" sLot)
    (A18 : AtD K "_law_all_lots" sLAll)
    (A19 : AtD K "_law_tried" sTried)
    (A20 : AtD K "_law_safe" sLSafe)
    (A21 : AtD K "_law_least" sLLeast)
    (A22 : AtD K "_law_lots_right" sRight)
    (A23 : AtD K "law" sLaw)
    (z_isinstance : PySem.W.nsIn K mainGlobals "isinstance" = some none)
    (z_len : PySem.W.nsIn K mainGlobals "len" = some none)
    (z_int : PySem.W.nsIn K mainGlobals "int" = some none)
    (z_bool : PySem.W.nsIn K mainGlobals "bool" = some none)
    (z_list : PySem.W.nsIn K mainGlobals "list" = some none)
    (z_tuple : PySem.W.nsIn K mainGlobals "tuple" = some none)
    (z_set : PySem.W.nsIn K mainGlobals "set" = some none)
    (z_range : PySem.W.nsIn K mainGlobals "range" = some none)
    (z_max : PySem.W.nsIn K mainGlobals "max" = some none)
    (z_min : PySem.W.nsIn K mainGlobals "min" = some none)
    (z_repr : PySem.W.nsIn K mainGlobals "repr" = some none)
    (z_enumerate : PySem.W.nsIn K mainGlobals "enumerate" = some none)
    (z_sorted : PySem.W.nsIn K mainGlobals "sorted" = some none)
    (z_all : PySem.W.nsIn K mainGlobals "all" = some none)
    (z_any : PySem.W.nsIn K mainGlobals "any" = some none)
    (z_zip : PySem.W.nsIn K mainGlobals "zip" = some none)
    (g_copies : PySem.W.nsIn K mainGlobals "MOST_COPIES" = some (some (.int 5 tk1)))
    (g_pages : PySem.W.nsIn K mainGlobals "MOST_PAGES" = some (some (.int 6 tk2)))
    (nt1 : PySem.W.nsIn K mainGlobals "all_lots" = some (some (.ref ft1)))
    (lt1 : K.lookup ft1 = some ⟨oct1, odt1, .func (PySem.W.fnOf "all_lots" "all_lots" (defArgs sAllLots) (defBody sAllLots) (defScope sAllLots) .none kVt1 dct1 pmt1 ant1 (.ref ct1) ctt1), slt1⟩)
    (ck1 : PySem.W.codeIn K (.ref ct1) "all_lots" = true)
    (kk1 : PySem.W.keepIn K (.ref ft1) = true)
    (lc1 : K.lookup ct1 = some ⟨.type "code", odc1, .fields vsC1, slc1⟩)
    (hP1 : vsC1[11]? = some (.ref Pt1))
    (hcd1 : PySem.W.codeHdIn K ct1 Pt1 = true)
    (notK1 : K.lookup Pt1 = none)
    (tab1 : h.get? Pt1 = some { cls := .none, data := .fields #[] })
    (nt2 : PySem.W.nsIn K mainGlobals "_law_parts" = some (some (.ref ft2)))
    (lt2 : K.lookup ft2 = some ⟨oct2, odt2, .func (PySem.W.fnOf "_law_parts" "_law_parts" (defArgs sParts) (defBody sParts) (defScope sParts) .none kVt2 dct2 pmt2 ant2 (.ref ct2) ctt2), slt2⟩)
    (ck2 : PySem.W.codeIn K (.ref ct2) "_law_parts" = true)
    (kk2 : PySem.W.keepIn K (.ref ft2) = true)
    (lc2 : K.lookup ct2 = some ⟨.type "code", odc2, .fields vsC2, slc2⟩)
    (hP2 : vsC2[11]? = some (.ref Pt2))
    (hcd2 : PySem.W.codeHdIn K ct2 Pt2 = true)
    (notK2 : K.lookup Pt2 = none)
    (tab2 : h.get? Pt2 = some { cls := .none, data := .fields #[] })
    (nt3 : PySem.W.nsIn K mainGlobals "_law_refused" = some (some (.ref ft3)))
    (lt3 : K.lookup ft3 = some ⟨oct3, odt3, .func (PySem.W.fnOf "_law_refused" "_law_refused" (defArgs sRefused) (defBody sRefused) (defScope sRefused) .none kVt3 dct3 pmt3 ant3 (.ref ct3) ctt3), slt3⟩)
    (ck3 : PySem.W.codeIn K (.ref ct3) "_law_refused" = true)
    (kk3 : PySem.W.keepIn K (.ref ft3) = true)
    (lc3 : K.lookup ct3 = some ⟨.type "code", odc3, .fields vsC3, slc3⟩)
    (hP3 : vsC3[11]? = some (.ref Pt3))
    (hcd3 : PySem.W.codeHdIn K ct3 Pt3 = true)
    (notK3 : K.lookup Pt3 = none)
    (tab3 : h.get? Pt3 = some { cls := .none, data := .fields #[] })
    (ne12 : Pt1 ≠ Pt2)
    (ne13 : Pt1 ≠ Pt3)
    (ne23 : Pt2 ≠ Pt3)
    (nCn : PySem.W.nsIn K mainGlobals "NoCount" = some (some (.ref C_n)))
    (xLn : K.lookup C_n = some (excClassObj nm_n q_n C_n N_n bs_n [.ref S_n, .type "ValueError", .type "Exception", .type "BaseException", .type "object"] true sn_n sub_n ab_n col_n dd_n u0_n u1_n u2_n u3_n u5_n "ValueError.__new__"))
    (x5n : PySem.W.findIn K (.ref C_n) "__setattr__" = some (some (.builtin "object.__setattr__")))
    (x6n : PySem.W.typeIn K (.ref C_n) = some (.type "type"))
    (x7n : PySem.W.keepIn K (.ref C_n) = true)
    (iIn : PySem.W.findIn K (.ref C_n) "__init__" = some (some (.ref fI_n)))
    (tIn : PySem.W.typeIn K (.ref fI_n) = some (.type "function"))
    (nTn : PySem.W.findIn K (.ref C_n) "told" = some none)
    (lIn : K.lookup fI_n = some ⟨ocI_n, odI_n, .func (PySem.W.fnOf "__init__" "NoCount.__init__" (defArgs (inClass (top 2) 0)) (defBody (inClass (top 2) 0)) (defScope (inClass (top 2) 0)) .none kVI_n dcI_n pmI_n anI_n cdI_n ctI_n), slI_n⟩)
    (cIn : PySem.W.codeIn K cdI_n "NoCount.__init__" = true)
    (kIn : PySem.W.keepIn K (.ref fI_n) = true)
    (x1n : PySem.W.findIn K (.ref C_n) "__getattribute__" = some (some (.builtin "BaseException.__getattribute__")))
    (x2n : PySem.W.findIn K (.ref C_n) "__getattr__" = some none)
    (x3n : PySem.W.subIn K (.ref C_n) (.type "BaseException") = some true)
    (x4n : PySem.W.hasDictIn K C_n = true)
    (nCp : PySem.W.nsIn K mainGlobals "NoLot" = some (some (.ref C_p)))
    (xLp : K.lookup C_p = some (excClassObj nm_p q_p C_p N_p bs_p [.ref S_p, .type "ValueError", .type "Exception", .type "BaseException", .type "object"] true sn_p sub_p ab_p col_p dd_p u0_p u1_p u2_p u3_p u5_p "ValueError.__new__"))
    (x5p : PySem.W.findIn K (.ref C_p) "__setattr__" = some (some (.builtin "object.__setattr__")))
    (x6p : PySem.W.typeIn K (.ref C_p) = some (.type "type"))
    (x7p : PySem.W.keepIn K (.ref C_p) = true)
    (iIp : PySem.W.findIn K (.ref C_p) "__init__" = some (some (.ref fI_p)))
    (tIp : PySem.W.typeIn K (.ref fI_p) = some (.type "function"))
    (nTp : PySem.W.findIn K (.ref C_p) "told" = some none)
    (lIp : K.lookup fI_p = some ⟨ocI_p, odI_p, .func (PySem.W.fnOf "__init__" "NoLot.__init__" (defArgs (inClass (top 3) 0)) (defBody (inClass (top 3) 0)) (defScope (inClass (top 3) 0)) .none kVI_p dcI_p pmI_p anI_p cdI_p ctI_p), slI_p⟩)
    (cIp : PySem.W.codeIn K cdI_p "NoLot.__init__" = true)
    (kIp : PySem.W.keepIn K (.ref fI_p) = true)
    (x1p : PySem.W.findIn K (.ref C_p) "__getattribute__" = some (some (.builtin "BaseException.__getattribute__")))
    (x2p : PySem.W.findIn K (.ref C_p) "__getattr__" = some none)
    (x3p : PySem.W.subIn K (.ref C_p) (.type "BaseException") = some true)
    (x4p : PySem.W.hasDictIn K C_p = true)
    (snn : PySem.W.subIn K (.ref C_n) (.ref C_n) = some true)
    (snp : PySem.W.subIn K (.ref C_n) (.ref C_p) = some false)
    (spp : PySem.W.subIn K (.ref C_p) (.ref C_p) = some true) : LawM l w K mg fa h 10 (fun cs => spLaw K (tbOf cs)) := by
  obtain ⟨f0, fd0, n0_, F0⟩ := A0
  obtain ⟨f1, fd1, n1_, F1⟩ := A1
  obtain ⟨f2, fd2, n2_, F2⟩ := A2
  obtain ⟨f3, fd3, n3_, F3⟩ := A3
  obtain ⟨f4, fd4, n4_, F4⟩ := A4
  obtain ⟨f5, fd5, n5_, F5⟩ := A5
  obtain ⟨f6, fd6, n6_, F6⟩ := A6
  obtain ⟨f7, fd7, n7_, F7⟩ := A7
  obtain ⟨f8, fd8, n8_, F8⟩ := A8
  obtain ⟨f9, fd9, n9_, F9⟩ := A9
  obtain ⟨f10, fd10, n10_, F10⟩ := A10
  obtain ⟨f11, fd11, n11_, F11⟩ := A11
  obtain ⟨f12, fd12, n12_, F12⟩ := A12
  obtain ⟨f13, fd13, n13_, F13⟩ := A13
  obtain ⟨f14, fd14, n14_, F14⟩ := A14
  obtain ⟨f15, fd15, n15_, F15⟩ := A15
  obtain ⟨f16, fd16, n16_, F16⟩ := A16
  obtain ⟨f17, fd17, n17_, F17⟩ := A17
  obtain ⟨f18, fd18, n18_, F18⟩ := A18
  obtain ⟨f19, fd19, n19_, F19⟩ := A19
  obtain ⟨f20, fd20, n20_, F20⟩ := A20
  obtain ⟨f21, fd21, n21_, F21⟩ := A21
  obtain ⟨f22, fd22, n22_, F22⟩ := A22
  obtain ⟨f23, fd23, n23_, F23⟩ := A23
  have M0 := PySem.W.mg_of X G n0_
  have b0 := F0.binds (ps := ["value"]) fun _ _ _ _ _ _ us hl => match us, hl with | [_], _ => rfl
  have M1 := PySem.W.mg_of X G n1_
  have b1 := F1.binds (ps := ["value", "least", "most"]) fun _ _ _ _ _ _ us hl => match us, hl with | [_, _, _], _ => rfl
  have M2 := PySem.W.mg_of X G n2_
  have b2 := F2.binds (ps := ["value", "count"]) fun _ _ _ _ _ _ us hl => match us, hl with | [_, _], _ => rfl
  have M3 := PySem.W.mg_of X G n3_
  have b3 := F3.binds (ps := ["lot", "count"]) fun _ _ _ _ _ _ us hl => match us, hl with | [_, _], _ => rfl
  have M4 := PySem.W.mg_of X G n4_
  have b4 := F4.binds (ps := ["one", "other"]) fun _ _ _ _ _ _ us hl => match us, hl with | [_, _], _ => rfl
  have M5 := PySem.W.mg_of X G n5_
  have b5 := F5.binds (ps := ["writes", "reads", "unruly"]) fun _ _ _ _ _ _ us hl => match us, hl with | [_, _, _], _ => rfl
  have M6 := PySem.W.mg_of X G n6_
  have b6 := F6.binds (ps := ["writes", "reads", "unruly"]) fun _ _ _ _ _ _ us hl => match us, hl with | [_, _, _], _ => rfl
  have M7 := PySem.W.mg_of X G n7_
  have b7 := F7.binds (ps := ["count", "reads", "writes", "unruly"]) fun _ _ _ _ _ _ us hl => match us, hl with | [_, _, _, _], _ => rfl
  have M8 := PySem.W.mg_of X G n8_
  have b8 := F8.binds (ps := ["count", "reads", "writes", "unruly", "pages"]) fun _ _ _ _ _ _ us hl => match us, hl with | [_, _, _, _, _], _ => rfl
  have M9 := PySem.W.mg_of X G n9_
  have b9 := F9.binds (ps := ["value", "least", "most"]) fun _ _ _ _ _ _ us hl => match us, hl with | [_, _, _], _ => rfl
  have M10 := PySem.W.mg_of X G n10_
  have b10 := F10.binds (ps := ["writes", "reads", "unruly"]) fun _ _ _ _ _ _ us hl => match us, hl with | [_, _, _], _ => rfl
  have M11 := PySem.W.mg_of X G n11_
  have b11 := F11.binds (ps := ["lots", "size"]) fun _ _ _ _ _ _ us hl => match us, hl with | [_, _], _ => rfl
  have M12 := PySem.W.mg_of X G n12_
  have b12 := F12.binds (ps := ["writes", "reads"]) fun _ _ _ _ _ _ us hl => match us, hl with | [_, _], _ => rfl
  have M13 := PySem.W.mg_of X G n13_
  have b13 := F13.binds (ps := ["shared", "unruly"]) fun _ _ _ _ _ _ us hl => match us, hl with | [_, _], _ => rfl
  have M14 := PySem.W.mg_of X G n14_
  have b14 := F14.binds (ps := ["writes", "reads", "unruly"]) fun _ _ _ _ _ _ us hl => match us, hl with | [_, _, _], _ => rfl
  have M15 := PySem.W.mg_of X G n15_
  have b15 := F15.binds (ps := ["_law_script", "_law_k"]) fun _ _ _ _ _ _ us hl => match us, hl with | [_, _], _ => rfl
  have M16 := PySem.W.mg_of X G n16_
  have b16 := F16.binds (ps := ["_law_source", "_law_top"]) fun _ _ _ _ _ _ us hl => match us, hl with | [_, _], _ => rfl
  have M17 := PySem.W.mg_of X G n17_
  have b17 := F17.binds (ps := ["_law_source", "_law_copies_here"]) fun _ _ _ _ _ _ us hl => match us, hl with | [_, _], _ => rfl
  have M18 := PySem.W.mg_of X G n18_
  have b18 := F18.binds (ps := ["_law_copies_here", "_law_size"]) fun _ _ _ _ _ _ us hl => match us, hl with | [_, _], _ => rfl
  have M19 := PySem.W.mg_of X G n19_
  have b19 := F19.binds (ps := ["_law_call"]) fun _ _ _ _ _ _ us hl => match us, hl with | [_], _ => rfl
  have M20 := PySem.W.mg_of X G n20_
  have b20 := F20.binds (ps := ["_law_writes_here", "_law_reads_here", "_law_bad"]) fun _ _ _ _ _ _ us hl => match us, hl with | [_, _, _], _ => rfl
  have M21 := PySem.W.mg_of X G n21_
  have b21 := F21.binds (ps := ["_law_writes_here", "_law_reads_here", "_law_bad"]) fun _ _ _ _ _ _ us hl => match us, hl with | [_, _, _], _ => rfl
  have M22 := PySem.W.mg_of X G n22_
  have b22 := F22.binds (ps := ["_law_writes_here", "_law_reads_here", "_law_bad"]) fun _ _ _ _ _ _ us hl => match us, hl with | [_, _, _], _ => rfl
  have M23 := PySem.W.mg_of X G n23_
  have b23 := F23.binds (ps := ["_law_script"]) fun _ _ _ _ _ _ us hl => match us, hl with | [_], _ => rfl
  have e := hfa.symm.trans M23
  cases e
  have T : Cst mg := ⟨(PySem.W.mg_none_of X G z_isinstance), (PySem.W.mg_none_of X G z_len), (PySem.W.mg_none_of X G z_int), (PySem.W.mg_none_of X G z_bool), (PySem.W.mg_none_of X G z_list), (PySem.W.mg_none_of X G z_tuple), (PySem.W.mg_none_of X G z_set), (PySem.W.mg_none_of X G z_range), (PySem.W.mg_none_of X G z_max), (PySem.W.mg_none_of X G z_min), (PySem.W.mg_none_of X G z_repr), (PySem.W.mg_none_of X G z_enumerate), (PySem.W.mg_none_of X G z_sorted), (PySem.W.mg_none_of X G z_all), (PySem.W.mg_none_of X G z_any), (PySem.W.mg_none_of X G z_zip), ⟨_, PySem.W.mg_of X G g_copies⟩, ⟨_, PySem.W.mg_of X G g_pages⟩⟩
  have oxn : OexC K C_n := ⟨⟨_, _, _, _, _, _, _, _, _, _, _, _, _, _, _, xLn, by rfl⟩, x5n, x3n, x6n, x7n⟩
  have TEn : ErrT K mg "NoCount" C_n fI_n := ⟨oxn, PySem.W.mg_of X G nCn, iIn, tIn, nTn⟩
  have FIn := fun_mk (st := inClass (top 2) 0) lIn cIn kIn
  have bIn := FIn.binds (ps := ["self", "told"]) fun _ _ _ _ _ _ us hl => match us, hl with | [_, _], _ => rfl
  have ESn : ErrS K mg "NoCount" C_n := ⟨PySem.W.mg_of X G nCn, ⟨x1n, x2n, x3n, x4n⟩, nTn⟩
  have oxp : OexC K C_p := ⟨⟨_, _, _, _, _, _, _, _, _, _, _, _, _, _, _, xLp, by rfl⟩, x5p, x3p, x6p, x7p⟩
  have TEp : ErrT K mg "NoLot" C_p fI_p := ⟨oxp, PySem.W.mg_of X G nCp, iIp, tIp, nTp⟩
  have FIp := fun_mk (st := inClass (top 3) 0) lIp cIp kIp
  have bIp := FIp.binds (ps := ["self", "told"]) fun _ _ _ _ _ _ us hl => match us, hl with | [_, _], _ => rfl
  have ESp : ErrS K mg "NoLot" C_p := ⟨PySem.W.mg_of X G nCp, ⟨x1p, x2p, x3p, x4p⟩, nTp⟩
  have S : Tri K mg ⟨C_n, C_p⟩ := ⟨ESn, ESp, PySem.W.exm_ref x3n x4n x6n snn, PySem.W.exm_ref x3p x4p x6p snp, PySem.W.exm_ref x3p x4p x6p spp⟩
  obtain ⟨oc', od', kV', doc', pm', an', cdv', ct', osl', rfl, lk', hcd'⟩ := F23.ex
  have FL := fun_mk (st := sLaw) lk' hcd' F23.kp
  refine ⟨PySem.W.fnOf "law" "law" (defArgs sLaw) (defBody sLaw) (defScope sLaw) .none kV' doc' pm' an' cdv' ct', [(ct1, Pt1), (ct2, Pt2), (ct3, Pt3)], all3 tab1 tab2 tab3, all3 notK1 notK2 notK3, all3 (PySem.W.codeHd_of_K X hcd1) (PySem.W.codeHd_of_K X hcd2) (PySem.W.codeHd_of_K X hcd3), fun s v => .of_eq rfl, fun base _ _ TB => ?_⟩
  have Tb_ : tbOf [(ct1, Pt1), (ct2, Pt2), (ct3, Pt3)] = [(Pt1, lamA), (Pt2, lamP), (Pt3, lamR)] := tbX3
  show FnG l.prog w K mg base 10 _ _ _ (spLaw K (tbOf [(ct1, Pt1), (ct2, Pt2), (ct3, Pt3)]))
  rw [Tb_]
  have TB1 : LamX.TabB base mg ct1 Pt1 := TB (ct1, Pt1) hm1
  have TB2 : LamX.TabB base mg ct2 Pt2 := TB (ct2, Pt2) hm2
  have TB3 : LamX.TabB base mg ct3 Pt3 := TB (ct3, Pt3) hm3
  have MKn : Mak l.prog w K mg base "NoCount" C_n := ⟨fI_n, _, TEn, ok_init2 FIn, bIn⟩
  have MKp : Mak l.prog w K mg base "NoLot" C_p := ⟨fI_p, _, TEp, ok_init3 FIp, bIp⟩
  have D0 : Df l.prog w K mg base 1 "is_number" ["value"] spN := ⟨f0, fd0, ok_number F0 T, M0, F0.kp, b0⟩
  have D1 : Df l.prog w K mg base 2 "is_within" ["value", "least", "most"] spW := ⟨f1, fd1, ok_within F1 D0, M1, F1.kp, b1⟩
  have D2 : Df l.prog w K mg base 3 "is_lot" ["value", "count"] (spIsLot K) := ⟨f2, fd2, ok_islot F2 T D1, M2, F2.kp, b2⟩
  have D3 : DfX l.prog w K mg base 4 "check_lot" ["lot", "count"] (spCkLot K C_p) := ⟨f3, fd3, ok_cklot F3 MKp D2, M3, F3.kp, b3⟩
  have D4 : Df l.prog w K mg base 1 "in_common" ["one", "other"] spCommon := ⟨f4, fd4, ok_common F4 T, M4, F4.kp, b4⟩
  have D9 : DfX l.prog w K mg base 3 "_check_count" ["value", "least", "most"] (spCk C_n) := ⟨f9, fd9, ok_check F9 MKn D1, M9, F9.kp, b9⟩
  have D8 : DfX l.prog w K mg base 4 "check_counts" ["count", "reads", "writes", "unruly", "pages"] (spCks C_n fun _ _ _ _ _ H Q => Q .non H) := ⟨f8, fd8, ok_counts F8 T D9, M8, F8.kp, b8⟩
  have D10 : DfX l.prog w K mg base 5 "_check_told" ["writes", "reads", "unruly"] (spTold K C_p) := ⟨f10, fd10, ok_told F10 T MKp D2 D3, M10, F10.kp, b10⟩
  have D11 : Df l.prog w K mg base 1 "_of_size" ["lots", "size"] spSize := ⟨f11, fd11, ok_size F11 T, M11, F11.kp, b11⟩
  have D12 : Df l.prog w K mg base 2 "_shared_lots" ["writes", "reads"] spShared := ⟨f12, fd12, ok_shared F12 T D4, M12, F12.kp, b12⟩
  have D13 : Df l.prog w K mg base 2 "_is_had" ["shared", "unruly"] spHad := ⟨f13, fd13, ok_had F13 T D4, M13, F13.kp, b13⟩
  have DAL : Df l.prog w K mg base 3 "all_lots" ["copies"] (spParts [(Pt1, lamA), (Pt2, lamP), (Pt3, lamR)]) := ⟨ft1, _, ok_alots ⟨oct1, odt1, kVt1, dct1, pmt1, ant1, ctt1, slt1, rfl, lt1, ck1⟩ T TB1 hm1 (hu1 ne12 ne13), PySem.W.mg_of X G nt1, kk1, .all fun us hl => match us, hl with | [_], _ => rfl⟩
  have DPA : Df l.prog w K mg base 3 "_law_parts" ["_law_lot_here"] (spPartsT [(Pt1, lamA), (Pt2, lamP), (Pt3, lamR)]) := ⟨ft2, _, ok_lparts ⟨oct2, odt2, kVt2, dct2, pmt2, ant2, ctt2, slt2, rfl, lt2, ck2⟩ T TB2 hm2 (hu2 ne12 ne23), PySem.W.mg_of X G nt2, kk2, .all fun us hl => match us, hl with | [_], _ => rfl⟩
  have D14 : Df l.prog w K mg base 4 "_least_bars" ["writes", "reads", "unruly"] (spLB [(Pt1, lamA), (Pt2, lamP), (Pt3, lamR)]) := ⟨f14, fd14, ok_lb F14 T D4 D12 D13 DAL, M14, F14.kp, b14⟩
  have D5 : DfX l.prog w K mg base 6 "are_safe" ["writes", "reads", "unruly"] (spAre K C_p) := ⟨f5, fd5, ok_are F5 D10 D12 D13, M5, F5.kp, b5⟩
  have D6 : DfX l.prog w K mg base 6 "least_bars" ["writes", "reads", "unruly"] (spLeastB K [(Pt1, lamA), (Pt2, lamP), (Pt3, lamR)] C_p) := ⟨f6, fd6, ok_leastb F6 D10 D14, M6, F6.kp, b6⟩
  have D7 : DfX l.prog w K mg base 5 "bars_by_count" ["count", "reads", "writes", "unruly"] (spByC K [(Pt1, lamA), (Pt2, lamP), (Pt3, lamR)] C_n C_p) := ⟨f7, fd7, ok_byc F7 T D8 D3 DAL D14 D11, M7, F7.kp, b7⟩
  have D15 : Df l.prog w K mg base 1 "_law_pool" ["_law_script", "_law_k"] (spPool K) := ⟨f15, fd15, ok_pool F15 T, M15, F15.kp, b15⟩
  have D16 : Df l.prog w K mg base 1 "_law_take" ["_law_source", "_law_top"] spTake := ⟨f16, fd16, ok_take F16 T, M16, F16.kp, b16⟩
  have D17 : Df l.prog w K mg base 2 "_law_lot" ["_law_source", "_law_copies_here"] spDraw := ⟨f17, fd17, ok_draw F17 T D16, M17, F17.kp, b17⟩
  have D18 : Df l.prog w K mg base 1 "_law_all_lots" ["_law_copies_here", "_law_size"] spLAll := ⟨f18, fd18, ok_lall F18 T, M18, F18.kp, b18⟩
  have D20 : Df l.prog w K mg base 1 "_law_safe" ["_law_writes_here", "_law_reads_here", "_law_bad"] spSafe := ⟨f20, fd20, ok_lsafe F20, M20, F20.kp, b20⟩
  have D21 : Df l.prog w K mg base 4 "_law_least" ["_law_writes_here", "_law_reads_here", "_law_bad"] (spLLeast [(Pt1, lamA), (Pt2, lamP), (Pt3, lamR)]) := ⟨f21, fd21, ok_lleast F21 DPA D20, M21, F21.kp, b21⟩
  have D22 : Df l.prog w K mg base 7 "_law_lots_right" ["_law_writes_here", "_law_reads_here", "_law_bad"] (spRight [(Pt1, lamA), (Pt2, lamP), (Pt3, lamR)]) := ⟨f22, fd22, ok_right F22 T D5 D6 D20 D21, M22, F22.kp, b22⟩
  have DRF : DfG l.prog w K mg base 9 "_law_refused" ["_law_good", "_law_bad"] (spRefused [(Pt1, lamA), (Pt2, lamP), (Pt3, lamR)]) := ⟨ft3, _, ok_refused (c := ⟨C_n, C_p⟩) ⟨oct3, odt3, kVt3, dct3, pmt3, ant3, ctt3, slt3, rfl, lt3, ck3⟩ T S TB3 hm3 (hu3 ne13 ne23) F19 M19 b19 D5 D6 D7, PySem.W.mg_of X G nt3, kk3, .all fun us hl => match us, hl with | [_, _], _ => rfl⟩
  exact ok_law FL T D15 D16 D17 D22 DRF D18 D21 D7
end Pl

open PyProof.Rows PySem PySem.W in
set_option maxRecDepth 100001 in
set_option maxHeartbeats 0 in
theorem PySem.Challenge.cw_plainstore_k26_whole_told_lots_and_bars_holds : PySem.Challenge.rw_plainstore_k26_whole_told_lots_and_bars.Holds := by
  (w_on; o_law; k_head); (case hw => w_witness2)
  k_fill
  refine Pl.walkP (l := PySem.Challenge.rw_plainstore_k26_whole_told_lots_and_bars) rfl (by decide) rfl (fun w h Y => km_in_of Y) ?F
  case F =>
    intro w mg fa h Y KX G hmg
    refine' Pl.all_mk KX G hmg ?A0 ?A1 ?A2 ?A3 ?A4 ?A5 ?A6 ?A7 ?A8 ?A9 ?A10 ?A11 ?A12 ?A13 ?A14 ?A15 ?A16 ?A17 ?A18 ?A19 ?A20 ?A21 ?A22 ?A23 ?z_isinstance ?z_len ?z_int ?z_bool ?z_list ?z_tuple ?z_set ?z_range ?z_max ?z_min ?z_repr ?z_enumerate ?z_sorted ?z_all ?z_any ?z_zip ?g_copies ?g_pages ?nt1 ?lt1 ?ck1 ?kk1 ?lc1 ?hP1 ?hcd1 ?notK1 ?tab1 ?nt2 ?lt2 ?ck2 ?kk2 ?lc2 ?hP2 ?hcd2 ?notK2 ?tab2 ?nt3 ?lt3 ?ck3 ?kk3 ?lc3 ?hP3 ?hcd3 ?notK3 ?tab3 ?ne12 ?ne13 ?ne23 ?nCn ?xLn ?x5n ?x6n ?x7n ?iIn ?tIn ?nTn ?lIn ?cIn ?kIn ?x1n ?x2n ?x3n ?x4n ?nCp ?xLp ?x5p ?x6p ?x7p ?iIp ?tIp ?nTp ?lIp ?cIp ?kIp ?x1p ?x2p ?x3p ?x4p ?snn ?snp ?spp
    (case A0 => (refine' ⟨_, _, ?a, L2.fun_mk ?l ?c ?k⟩; (case a => k_is); (case l => k_is); (case c => k_is); (case k => k_is)))
    (case A1 => (refine' ⟨_, _, ?a, L2.fun_mk ?l ?c ?k⟩; (case a => k_is); (case l => k_is); (case c => k_is); (case k => k_is)))
    (case A2 => (refine' ⟨_, _, ?a, L2.fun_mk ?l ?c ?k⟩; (case a => k_is); (case l => k_is); (case c => k_is); (case k => k_is)))
    (case A3 => (refine' ⟨_, _, ?a, L2.fun_mk ?l ?c ?k⟩; (case a => k_is); (case l => k_is); (case c => k_is); (case k => k_is)))
    (case A4 => (refine' ⟨_, _, ?a, L2.fun_mk ?l ?c ?k⟩; (case a => k_is); (case l => k_is); (case c => k_is); (case k => k_is)))
    (case A5 => (refine' ⟨_, _, ?a, L2.fun_mk ?l ?c ?k⟩; (case a => k_is); (case l => k_is); (case c => k_is); (case k => k_is)))
    (case A6 => (refine' ⟨_, _, ?a, L2.fun_mk ?l ?c ?k⟩; (case a => k_is); (case l => k_is); (case c => k_is); (case k => k_is)))
    (case A7 => (refine' ⟨_, _, ?a, L2.fun_mk ?l ?c ?k⟩; (case a => k_is); (case l => k_is); (case c => k_is); (case k => k_is)))
    (case A8 => (refine' ⟨_, _, ?a, L2.fun_mk ?l ?c ?k⟩; (case a => k_is); (case l => k_is); (case c => k_is); (case k => k_is)))
    (case A9 => (refine' ⟨_, _, ?a, L2.fun_mk ?l ?c ?k⟩; (case a => k_is); (case l => k_is); (case c => k_is); (case k => k_is)))
    (case A10 => (refine' ⟨_, _, ?a, L2.fun_mk ?l ?c ?k⟩; (case a => k_is); (case l => k_is); (case c => k_is); (case k => k_is)))
    (case A11 => (refine' ⟨_, _, ?a, L2.fun_mk ?l ?c ?k⟩; (case a => k_is); (case l => k_is); (case c => k_is); (case k => k_is)))
    (case A12 => (refine' ⟨_, _, ?a, L2.fun_mk ?l ?c ?k⟩; (case a => k_is); (case l => k_is); (case c => k_is); (case k => k_is)))
    (case A13 => (refine' ⟨_, _, ?a, L2.fun_mk ?l ?c ?k⟩; (case a => k_is); (case l => k_is); (case c => k_is); (case k => k_is)))
    (case A14 => (refine' ⟨_, _, ?a, L2.fun_mk ?l ?c ?k⟩; (case a => k_is); (case l => k_is); (case c => k_is); (case k => k_is)))
    (case A15 => (refine' ⟨_, _, ?a, L2.fun_mk ?l ?c ?k⟩; (case a => k_is); (case l => k_is); (case c => k_is); (case k => k_is)))
    (case A16 => (refine' ⟨_, _, ?a, L2.fun_mk ?l ?c ?k⟩; (case a => k_is); (case l => k_is); (case c => k_is); (case k => k_is)))
    (case A17 => (refine' ⟨_, _, ?a, L2.fun_mk ?l ?c ?k⟩; (case a => k_is); (case l => k_is); (case c => k_is); (case k => k_is)))
    (case A18 => (refine' ⟨_, _, ?a, L2.fun_mk ?l ?c ?k⟩; (case a => k_is); (case l => k_is); (case c => k_is); (case k => k_is)))
    (case A19 => (refine' ⟨_, _, ?a, L2.fun_mk ?l ?c ?k⟩; (case a => k_is); (case l => k_is); (case c => k_is); (case k => k_is)))
    (case A20 => (refine' ⟨_, _, ?a, L2.fun_mk ?l ?c ?k⟩; (case a => k_is); (case l => k_is); (case c => k_is); (case k => k_is)))
    (case A21 => (refine' ⟨_, _, ?a, L2.fun_mk ?l ?c ?k⟩; (case a => k_is); (case l => k_is); (case c => k_is); (case k => k_is)))
    (case A22 => (refine' ⟨_, _, ?a, L2.fun_mk ?l ?c ?k⟩; (case a => k_is); (case l => k_is); (case c => k_is); (case k => k_is)))
    (case A23 => (refine' ⟨_, _, ?a, L2.fun_mk ?l ?c ?k⟩; (case a => k_is); (case l => k_is); (case c => k_is); (case k => k_is)))
    (case z_isinstance => k_is)
    (case z_len => k_is)
    (case z_int => k_is)
    (case z_bool => k_is)
    (case z_list => k_is)
    (case z_tuple => k_is)
    (case z_set => k_is)
    (case z_range => k_is)
    (case z_max => k_is)
    (case z_min => k_is)
    (case z_repr => k_is)
    (case z_enumerate => k_is)
    (case z_sorted => k_is)
    (case z_all => k_is)
    (case z_any => k_is)
    (case z_zip => k_is)
    (case g_copies => k_is)
    (case g_pages => k_is)
    (case nt1 => k_is)
    (case lt1 => k_is)
    (case ck1 => k_is)
    (case kk1 => k_is)
    (case lc1 => k_is)
    (case hP1 => rfl)
    (case hcd1 => kernel_rfl)
    (case notK1 => kernel_rfl)
    (case tab1 => exact PySem.W.km_tabs_of Y _ (by simp))
    (case nt2 => k_is)
    (case lt2 => k_is)
    (case ck2 => k_is)
    (case kk2 => k_is)
    (case lc2 => k_is)
    (case hP2 => rfl)
    (case hcd2 => kernel_rfl)
    (case notK2 => kernel_rfl)
    (case tab2 => exact PySem.W.km_tabs_of Y _ (by simp))
    (case nt3 => k_is)
    (case lt3 => k_is)
    (case ck3 => k_is)
    (case kk3 => k_is)
    (case lc3 => k_is)
    (case hP3 => rfl)
    (case hcd3 => kernel_rfl)
    (case notK3 => kernel_rfl)
    (case tab3 => exact PySem.W.km_tabs_of Y _ (by simp))
    (case ne12 => decide)
    (case ne13 => decide)
    (case ne23 => decide)
    (case nCn => k_is)
    (case xLn => k_is)
    (case x5n => k_is)
    (case x6n => k_is)
    (case x7n => k_is)
    (case iIn => k_is)
    (case tIn => k_is)
    (case nTn => k_is)
    (case lIn => k_is)
    (case cIn => k_is)
    (case kIn => k_is)
    (case x1n => k_is)
    (case x2n => k_is)
    (case x3n => k_is)
    (case x4n => k_is)
    (case nCp => k_is)
    (case xLp => k_is)
    (case x5p => k_is)
    (case x6p => k_is)
    (case x7p => k_is)
    (case iIp => k_is)
    (case tIp => k_is)
    (case nTp => k_is)
    (case lIp => k_is)
    (case cIp => k_is)
    (case kIp => k_is)
    (case x1p => k_is)
    (case x2p => k_is)
    (case x3p => k_is)
    (case x4p => k_is)
    (case snn => k_is)
    (case snp => k_is)
    (case spp => k_is)

