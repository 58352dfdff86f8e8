import PyProof.Rows.All
import Wide.All
import OpenK.AllK
import Wide.FinOn
import HandS.ForMost
import PyProof.ReprLen
import PyProof.ReprRoads
import HandS.IsInst
import HandS.TupAny
import HandS.TupMul
import HandS.TupSets
import HandS.Conv
import HandS.Style
import HandS.ExcInit
import HandS.ExcIs
import HandS.ExcField
import HandS.CallLocal
import HandS.CallSlots
import HandS.TryOnly
import HandS.ExcOwn
import HandS.WordsExc
import HandS.More
import HandS.NoneIn
import HandS.Defaults
import HandS.Lambda
import HandS.TryMany
import HandS.EndTab
import KE.KNestM
import HandS.Walk
import KE.GoesEnum
import HandS.DictComp
import HandS.Sort
import HandS.ListItems
import KE.KDictList
import PySem.Challenge.RW_plainstore_k24_whole_least_moves_of_many
set_option Elab.async false
set_option linter.all false
set_option maxRecDepth 100000
set_option maxHeartbeats 8000000
namespace Pl
open L2 PySem PySem.Spec PyProof.Rows
/-- what a tracked tuple's items read as: known to its object (which has no dict), or longer than four, or (k = false) any -/
inductive TupAt (H : Hp) : Bool → Addr → List V → Prop
  | frz {k : Bool} {a : Addr} {o : Obj} {xs : List V} (h : H a = some (.frz o (.tup xs))) (d : o.dict = none) : TupAt H k a xs
  | big {k : Bool} {a : Addr} {xs : List V} (h : H a = some (.tup xs)) (l : 4 < xs.length) : TupAt H k a xs
  | any {a : Addr} {xs : List V} (h : H a = some (.tup xs)) : TupAt H false a xs
mutual
/-- m: dicts (true) or lists (false) stand in it; z: an address that it keeps away from; k: its own tuple is known -/
inductive Dv (m : Bool) (z : Addr) (H : Hp) : Bool → V → PyData → Prop
  | non {k : Bool} : Dv m z H k .non .none
  | bl {k : Bool} (b : Bool) : Dv m z H k (.bl b) (.bool b)
  | int {k : Bool} (i : Int) : Dv m z H k (.int i) (.int i)
  | str {k : Bool} (x : Str) : Dv m z H k (.str x) (.str x)
  | lst {k : Bool} {a : Addr} {xs : List V} {ds : List PyData} (hm : m = false) (ne : a ≠ z) (h : H a = some (.lst xs)) (t : DvL m z H false xs ds) : Dv m z H k (.ref a) (.list ds)
  | tup {k : Bool} {a : Addr} {xs : List V} {ds : List PyData} (ne : a ≠ z) (h : TupAt H k a xs) (t : DvL m z H true xs ds) : Dv m z H k (.ref a) (.tuple ds)
  | dct {k : Bool} {a : Addr} (hm : m = true) (ne : a ≠ z) (h : H a = some (.dK [])) : Dv m z H k (.ref a) (.dict [])
inductive DvL (m : Bool) (z : Addr) (H : Hp) : Bool → List V → List PyData → Prop
  | nil {k : Bool} : DvL m z H k [] []
  | cons {k : Bool} {v : V} {vs : List V} {d : PyData} {ds : List PyData} (a : Dv m z H k v d) (t : DvL m z H k vs ds) : DvL m z H k (v :: vs) (d :: ds)
end
theorem TupAt.weak {H : Hp} {k : Bool} {a : Addr} {xs : List V} (h : TupAt H k a xs) : TupAt H false a xs := by
  cases h with
  | frz h d => exact .frz h d
  | big h l => exact .any h
  | any h => exact .any h
theorem TupAt.sq {K : PySem.W.Frag} {H : Hp} {k : Bool} {a : Addr} {xs : List V} (h : TupAt H k a xs) : SqT K H a xs := by
  cases h with
  | frz h d => exact .inl (.inr ⟨_, h⟩)
  | big h l => exact .inl (.inl h)
  | any h => exact .inl (.inl h)
/-- (any object) -/
def NoT (_ : HO) : Prop := True
theorem NoT.lst {xs : List V} : NoT (.lst xs) := trivial
theorem NoT.tup {xs : List V} : NoT (.tup xs) := trivial
theorem NoT.dK {kvs : List (Key × V)} : NoT (.dK kvs) := trivial
theorem NoT.frz {o : Obj} {u : HO} : NoT (.frz o u) := trivial
/-- all but z stands -/
def But (z : Addr) (H G : Hp) : Prop := ∀ b o, b ≠ z → NoT o → H b = some o → G b = some o
/-- all stands -/
def Sam (H G : Hp) : Prop := ∀ b o, NoT o → H b = some o → G b = some o
theorem Sam.refl (H : Hp) : Sam H H := fun _ _ _ e => e
theorem Sam.of {H G : Hp} (s : Same H G) : Sam H G := fun b o _ e => s b o e
theorem Sam.trans {H G F : Hp} (a : Sam H G) (b : Sam G F) : Sam H F := fun c o n e => b c o n (a c o n e)
theorem Sam.but {H G : Hp} {z : Addr} (s : Sam H G) : But z H G := fun b o _ n e => s b o n e
theorem But.of {H G : Hp} {z : Addr} (s : Same H G) : But z H G := fun b o _ _ e => s b o e
theorem But.refl (z : Addr) (H : Hp) : But z H H := fun _ _ _ _ e => e
theorem But.trans {z : Addr} {H G F : Hp} (a : But z H G) (b : But z G F) : But z H F := fun c o n t e => b c o n t (a c o n t e)
theorem But.upd {z : Addr} {H : Hp} {o : HO} : But z H (L2.upd H z o) := fun b u n _ e => (upd_ne n).trans e
theorem But.new {z p : Addr} {H : Hp} {o : HO} (f : H p = none) : But z H (L2.upd H p o) := fun b u _ _ e => (upd_ne (ne_of_none e f)).trans e
theorem same_new {p : Addr} {H : Hp} {o : HO} (f : H p = none) : Same H (L2.upd H p o) := fun b u e => (upd_ne (ne_of_none e f)).trans e
theorem TupAt.to {H G : Hp} {z : Addr} {k : Bool} {a : Addr} {xs : List V} (e : But z H G) (ne : a ≠ z) (h : TupAt H k a xs) : TupAt G k a xs := by
  cases h with
  | frz h d => exact .frz (e _ _ ne NoT.frz h) d
  | big h l => exact .big (e _ _ ne NoT.tup h) l
  | any h => exact .any (e _ _ ne NoT.tup h)
section
variable {m : Bool} {z : Addr} {H G : Hp}
mutual
theorem Dv.to (e : But z H G) : ∀ (k : Bool) (d : PyData) (v : V), Dv m z H k v d → Dv m z G k v d
  | _, .none, _, h => by cases h; exact .non
  | _, .bool _, _, h => by cases h; exact .bl _
  | _, .int _, _, h => by cases h; exact .int _
  | _, .str _, _, h => by cases h; exact .str _
  | _, .list ds, _, h => by
    cases h with
    | lst hm ne h t => exact .lst hm ne (e _ _ ne NoT.lst h) (DvL.to e _ ds _ t)
  | _, .tuple ds, _, h => by
    cases h with
    | tup ne h t => exact .tup ne (h.to e ne) (DvL.to e _ ds _ t)
  | _, .dict _, _, h => by
    cases h with
    | dct hm ne h => exact .dct hm ne (e _ _ ne NoT.dK h)
theorem DvL.to (e : But z H G) : ∀ (k : Bool) (ds : List PyData) (vs : List V), DvL m z H k vs ds → DvL m z G k vs ds
  | _, [], _, h => by cases h; exact .nil
  | _, d :: ds, _, h => by
    cases h with
    | cons a t => exact .cons (Dv.to e _ d _ a) (DvL.to e _ ds _ t)
end
theorem Dv.weak {k : Bool} {v : V} {d : PyData} (h : Dv m z H k v d) : Dv m z H false v d := by
  cases h with
  | non => exact .non
  | bl b => exact .bl b
  | int i => exact .int i
  | str x => exact .str x
  | lst hm ne h t => exact .lst hm ne h t
  | tup ne h t => exact .tup ne h.weak t
  | dct hm ne h => exact .dct hm ne h
theorem DvL.weak {k : Bool} : ∀ {vs : List V} {ds : List PyData}, DvL m z H k vs ds → DvL m z H false vs ds
  | _, _, .nil => .nil
  | _, _, .cons a t => .cons a.weak t.weak
theorem DvL.len {k : Bool} : ∀ {vs : List V} {ds : List PyData}, DvL m z H k vs ds → vs.length = ds.length
  | _, _, .nil => rfl
  | _, _, .cons _ t => congrArg Nat.succ t.len
theorem DvL.at {k : Bool} : ∀ {vs : List V} {ds : List PyData} {i : Nat} {d : PyData}, DvL m z H k vs ds → ds[i]? = some d → ∃ v, vs[i]? = some v ∧ Dv m z H k v d
  | _, _, _, _, .nil, e => absurd e (by simp)
  | _, _, 0, _, .cons a _, e => by simp at e; subst e; exact ⟨_, rfl, a⟩
  | _, _, i + 1, _, .cons _ t, e => by
    obtain ⟨v, h1, h2⟩ := DvL.at (i := i) t (by simpa using e)
    exact ⟨v, by simpa using h1, h2⟩
theorem DvL.at' {k : Bool} : ∀ {vs : List V} {ds : List PyData} {i : Nat} {v : V}, DvL m z H k vs ds → vs[i]? = some v → ∃ d, ds[i]? = some d ∧ Dv m z H k v d
  | _, _, _, _, .nil, e => absurd e (by simp)
  | _, _, 0, _, .cons a _, e => by simp at e; subst e; exact ⟨_, rfl, a⟩
  | _, _, i + 1, _, .cons _ t, e => by
    obtain ⟨v, h1, h2⟩ := DvL.at' (i := i) t (by simpa using e)
    exact ⟨v, by simpa using h1, h2⟩
theorem DvL.app {k : Bool} : ∀ {vs ws : List V} {ds es : List PyData}, DvL m z H k vs ds → DvL m z H k ws es → DvL m z H k (vs ++ ws) (ds ++ es)
  | _, _, _, _, .nil, h => h
  | _, _, _, _, .cons a t, h => .cons a (t.app h)
theorem DvL.take {k : Bool} : ∀ {vs : List V} {ds : List PyData} (n : Nat), DvL m z H k vs ds → DvL m z H k (vs.take n) (ds.take n)
  | _, _, 0, _ => by rw [List.take_zero, List.take_zero]; exact .nil
  | _, _, _ + 1, .nil => .nil
  | _, _, n + 1, .cons a t => .cons a (t.take n)
theorem DvL.drop {k : Bool} : ∀ {vs : List V} {ds : List PyData} (n : Nat), DvL m z H k vs ds → DvL m z H k (vs.drop n) (ds.drop n)
  | _, _, 0, h => h
  | _, _, _ + 1, .nil => .nil
  | _, _, n + 1, .cons _ t => t.drop n
end
section
variable {X : Cx} {pins : List (Addr × Obj)} {σ : L2.St} {H : Hp} {s : Shared} {m : Bool} {z : Addr}
theorem vals_list {a : Addr} {xs : List V} (I : Inv X pins σ H s) (h : H a = some (.lst xs)) : ∃ o vs n, s.heap.get? a = some o ∧ o.cls = .type "list" ∧ o.data = .seq vs n ∧ Vals xs vs.toList := by
  obtain ⟨_, its, n, r, e⟩ := I.hok a _ h
  exact ⟨_, its.toArray, n, e, rfl, rfl, by simpa using r⟩
theorem TupAt.obj {k : Bool} {a : Addr} {xs : List V} (I : Inv X pins σ H s) (h : TupAt H k a xs) : xs.length ≤ sizeLine ∧ ∃ its : List Value, Vals xs its ∧ IsTup s.heap a its.toArray := by
  cases h with
  | frz h d => exact (I.hok _ _ h).2
  | big h l => exact I.hok _ _ h
  | any h => exact I.hok _ _ h
mutual
theorem Dv.rd (I : Inv X pins σ H s) : ∀ (k : Bool) (d : PyData) (v : V) (u : Value), Dv m z H k v d → RelV v u → ∃ as, Reads s.heap u d as ∧ (m = true → sysModules ∉ as)
  | _, .none, _, _, h, r => by cases h; cases r; exact ⟨_, .none, fun _ => List.not_mem_nil⟩
  | _, .bool b, _, _, h, r => by cases h; cases r; exact ⟨_, .bool b, fun _ => List.not_mem_nil⟩
  | _, .int i, _, _, h, r => by
    cases h
    obtain ⟨t, rfl⟩ := r
    exact ⟨_, .int i t, fun _ => List.not_mem_nil⟩
  | _, .str x, _, _, h, r => by
    cases h
    obtain ⟨t, rfl⟩ := r
    exact ⟨_, .str x t, fun _ => List.not_mem_nil⟩
  | _, .list ds, _, _, h, r => by
    cases h with
    | lst hm ne h t =>
      cases r
      obtain ⟨o, vs, n, e1, e2, e3, rv⟩ := vals_list I h
      obtain ⟨as, q, _⟩ := DvL.rd I _ ds _ _ t rv
      exact ⟨_, .list e1 e2 e3 q, fun e => absurd (hm.symm.trans e) (by decide)⟩
  | _, .tuple ds, _, _, h, r => by
    cases h with
    | tup ne h t =>
      cases r
      obtain ⟨_, its, rv, o, e1, e2, n, e3⟩ := h.obj I
      obtain ⟨as, q, kk⟩ := DvL.rd I _ ds _ its t rv
      exact ⟨_, .tuple e1 e2 e3 (by simpa using q), kk⟩
  | _, .dict kvs, _, _, h, r => by
    cases h with
    | @dct _ a hm ne h =>
      cases r
      obtain ⟨_, lo, vs, rel, o, es, n, e1, e2, e3, _, e4, _⟩ := I.hok _ _ h
      cases rel
      obtain ⟨l⟩ := es
      have e5 : l = [] := by
        cases l with
        | nil => rfl
        | cons x l => cases e4
      subst e5
      refine ⟨[a] ++ [], .dict (as := []) (bs := []) e1 e2.1 e3 .nil .nil, fun _ hm => ?_⟩
      rw [List.append_nil, List.mem_singleton] at hm
      subst hm
      simp at lo
theorem DvL.rd (I : Inv X pins σ H s) : ∀ (k : Bool) (ds : List PyData) (vs : List V) (us : List Value), DvL m z H k vs ds → Vals vs us → ∃ as, ReadsAll s.heap us ds as ∧ (m = true → sysModules ∉ as)
  | _, [], _, _, h, r => by cases h; cases r; exact ⟨_, .nil, fun _ => List.not_mem_nil⟩
  | _, d :: ds, _, _, h, r => by
    cases h with
    | cons a t =>
      cases r with
      | cons r1 r2 =>
        obtain ⟨as, q1, k1⟩ := Dv.rd I _ d _ _ a r1
        obtain ⟨bs, q2, k2⟩ := DvL.rd I _ ds _ _ t r2
        exact ⟨_, .cons q1 q2, fun e hm => (List.mem_append.mp hm).elim (k1 e) (k2 e)⟩
end
mutual
theorem Dv.nod (e : m = false) : ∀ (k : Bool) (d : PyData) (v : V), Dv m z H k v d → d.hasDict = false
  | _, .none, _, _ => by simp only [PyData.hasDict]
  | _, .bool _, _, _ => by simp only [PyData.hasDict]
  | _, .int _, _, _ => by simp only [PyData.hasDict]
  | _, .str _, _, _ => by simp only [PyData.hasDict]
  | _, .list ds, _, h => by
    cases h with
    | lst hm ne h t => simp only [PyData.hasDict]; exact DvL.nod e _ ds _ t
  | _, .tuple ds, _, h => by
    cases h with
    | tup ne h t => simp only [PyData.hasDict]; exact DvL.nod e _ ds _ t
  | _, .dict _, _, h => by
    cases h with
    | dct hm ne h => exact absurd (hm.symm.trans e) (by decide)
theorem DvL.nod (e : m = false) : ∀ (k : Bool) (ds : List PyData) (vs : List V), DvL m z H k vs ds → PyData.hasDictAll ds = false
  | _, [], _, _ => by simp only [PyData.hasDictAll]
  | _, d :: ds, _, h => by
    cases h with
    | cons a t => simp only [PyData.hasDictAll, Dv.nod e _ d _ a, DvL.nod e _ ds _ t, Bool.or_self]
end
/-- what can be written out -/
structure Shw (d : PyData) : Prop where
  sh : d.showable = true
  dp : d.depth ≤ 10
  sz : d.shown.length ≤ sizeLine
def rRepr : List V → Hp → VK → Prop := fun xs H Q => ∃ (m : Bool) (z : Addr) (v : V) (d : PyData), xs = [v] ∧ Dv m z H false v d ∧ Shw d ∧ Q (.str d.shown) H
theorem call_repr (hg : X.A.guards = some []) (hu : X.A.units + 64 < cLine) : CallR X (.builtin "repr") rRepr := by
  intro pins s σ H xs us Q I r h; skip
  obtain ⟨m, z, v, d, rfl, hd, S, q⟩ := h
  obtain ⟨u, rfl, ru⟩ := vals1 r; skip
  obtain ⟨as, rd, lo⟩ := Dv.rd I _ d v u hd ru
  have fin : ∀ (a : Addr), u = .ref a → wpAny (model X.prog X.w) X.A (call (.builtin "repr") [u]) (EP X pins σ Q) X.xe s := fun a e => by
    subst e
    refine repr_of_reads' rd S.sh (fun hd2 => ?_) hg (by have := S.dp; omega) (fun _ _ e => e) (fun h' w tk k => ?_) S.sz
    · cases m with
      | true => exact lo rfl
      | false => exact absurd (hd2.symm.trans (Dv.nod rfl _ d v hd)) (by decide)
    · exact ⟨.str d.shown, H, I.kept k, ⟨w, rfl⟩, q⟩
  cases rd with
  | none => exact P.repr_of_none ⟨.str _, H, I.tok _, ⟨_, rfl⟩, by simpa only [PyData.shown] using q⟩
  | bool b => exact P.repr_of_bool ⟨.str _, H, I.tok _, ⟨_, rfl⟩, by cases b <;> simpa only [PyData.shown] using q⟩
  | int i t =>
    have e : decide (i.natAbs.log2 < 1920) = true := by simpa only [PyData.showable] using S.sh
    exact P.repr_of_int (of_decide_eq_true e) ⟨.str _, H, I.tok _, ⟨_, rfl⟩, by simpa only [PyData.shown] using q⟩
  | str x t => exact P.repr_of_str ⟨.str _, H, I.tok _, ⟨_, rfl⟩, by simpa only [PyData.shown] using q⟩ (by simpa only [PyData.shown] using S.sz)
  | list => exact fin _ rfl
  | tuple => exact fin _ rfl
  | dict => exact fin _ rfl
end
end Pl

namespace Pl
open L2 PySem PySem.Spec PyProof.Rows
/-- as FnOk, at places where nothing is being written out -/
structure FnG (P : Program) (w : World) (K : PySem.W.Frag) (mg : Str → Option Value) (base : Heap) (k : Nat) (f : Addr) (fd : FuncData) (ps : List Str) (sp : Sp) : Prop where
  len : ∀ us H Q E, sp us H Q E → us.length = ps.length
  run : ∀ (A : Around) (outer : List Env) (s : Shared) (H : Hp) (args : Args) (us : List Value) (vs : List V) (Q : VK) (E : XK), A.guards = some [] → Room k A → Env0 P w K mg base A outer s H → BindsTo s fd args (ps.zip us) → Vals vs us → sp vs H Q E →
    codeAny (model P w) A (.call (.ref f) args) (CR CX0 outer P w H s Q E) s
section
variable {P : Program} {K : PySem.W.Frag} {w : World} {base : Heap} {mg : Str → Option Value}
theorem okG0 {x qual : Str} {st : Stmt} {f : Addr} {N ps : List Str} {k : Nat} {sp : Sp} {oc kV doc pm cdv ct : Value} {od an : Option Addr} {osl : Array (Option Value)} (lk : K.lookup f = some ⟨oc, od, .func (PySem.W.fnOf x qual (defArgs st) (defBody st) (defScope st) .none kV doc pm an cdv ct), osl⟩) (hcd : PySem.W.codeIn K cdv qual = true)
    (S : FnScope N ps (defScope st)) (len : ∀ vs H Q E, sp vs H Q E → vs.length = ps.length)
    (walk : ∀ (A : Around) (outer : List Env) (s : Shared) (H : Hp) (vs : List V) (Q : VK) (E : XK), A.guards = some [] → Room k (A.deeper (envOfC qual (defScope st) s.heap.objs.size f cdv)) → sp vs H Q E →
      ∃ t, PSs (cxOf CX0 P w K mg base N qual (defScope st) f cdv A outer s H E).nox (defBody st) t ∧ t { nx := fun _ H' => Q .non H', rt := Q } (start N vs) H) : FnG P w K mg base (k + 1) f (PySem.W.fnOf x qual (defArgs st) (defBody st) (defScope st) .none kV doc pm an cdv ct) ps sp := by
  refine ⟨len, ?_⟩
  intro A outer s H args us vs Q E hg room env bind rel want
  have kin : K.In s.heap := env.mod.kin.keeps fun b o e => (env.bs b o e).1
  have nol : s.heap.NoLimit := env.mod.nolimit.keeps fun b o e => (env.bs b o e).1
  obtain ⟨t, ht, goal⟩ := walk A outer s H vs Q E hg (room.deeper _) want
  refine codeAny_call_function room.depth (kin _ _ lk) rfl S.co S.gen rfl (PySem.W.codeRec_of kin hcd) (bind _ _ _ _ (wpAny_newFunctionEnv_cells S.kind (fun y hy => ?_) fun env' ee s1 made => ?_))
  · rcases S.par y.1 (List.of_mem_zip (a := y.1) (b := y.2) hy).1 with h | h
    · exact .inl h
    · exact .inr ⟨h, PySem.W.cellsFrom_some _ _ _ (.inl h)⟩
  · subst ee
    refine ⟨nol.keeps made.toInCall.keep, codeAny_func (wpAny_mono (ht.nox.run [] s1 (start N vs) H _ (inv_start S room.hd env (len _ _ _ _ want) rel made) goal) ?_ fun _ _ h => h)⟩
    intro fl s2 h
    match fl, h with
    | .ret u, ⟨v, σ2, H2, J, rv, q⟩ => exact ⟨v, H2, J.os, J.bare, J.base, J.hok, rv, q⟩
    | .next, ⟨σ2, H2, J, q⟩ => exact ⟨V.non, H2, J.os, J.bare, J.base, J.hok, rfl, q⟩
    | .brk, ⟨_, _, _, q⟩ => exact q.elim
    | .cont, ⟨_, _, _, q⟩ => exact q.elim
theorem okG {x qual : Str} {st : Stmt} {f : Addr} {fd : FuncData} {N ps : List Str} {k : Nat} {sp : Sp} (F : Fun K x qual st f fd) (S : FnScope N ps (defScope st)) (len : ∀ vs H Q E, sp vs H Q E → vs.length = ps.length)
    (walk : ∀ (cdv : Value) (A : Around) (outer : List Env) (s : Shared) (H : Hp) (vs : List V) (Q : VK) (E : XK), A.guards = some [] → Room k (A.deeper (envOfC qual (defScope st) s.heap.objs.size f cdv)) → sp vs H Q E →
      ∃ t, PSs (cxOf CX0 P w K mg base N qual (defScope st) f cdv A outer s H E).nox (defBody st) t ∧ t { nx := fun _ H' => Q .non H', rt := Q } (start N vs) H) : FnG P w K mg base (k + 1) f fd ps sp := by
  obtain ⟨oc, od, kV, doc, pm, an, cdv, ct, osl, rfl, lk, hcd⟩ := F.ex; skip
  exact okG0 lk hcd S len fun A outer s H vs Q E => walk cdv A outer s H vs Q E
/-- a def whose code object is known -/
structure FunC (K : PySem.W.Frag) (x qual : Str) (st : Stmt) (f c : Addr) (fd : FuncData) : Prop where
  ex : ∃ (oc : Value) (od : Option Addr) (kV doc pm : Value) (an : Option Addr) (ct : Value) (osl : Array (Option Value)),
    fd = PySem.W.fnOf x qual (defArgs st) (defBody st) (defScope st) .none kV doc pm an (.ref c) ct ∧ K.lookup f = some ⟨oc, od, .func fd, osl⟩ ∧ PySem.W.codeIn K (.ref c) qual = true
theorem okC {x qual : Str} {st : Stmt} {f c : Addr} {fd : FuncData} {N ps : List Str} {k : Nat} {sp : Sp} (F : FunC K x qual st f c fd) (S : FnScope N ps (defScope st)) (len : ∀ vs H Q E, sp vs H Q E → vs.length = ps.length)
    (walk : ∀ (A : Around) (outer : List Env) (s : Shared) (H : Hp) (vs : List V) (Q : VK) (E : XK), A.guards = some [] → Room k (A.deeper (envOfC qual (defScope st) s.heap.objs.size f (.ref c))) → sp vs H Q E →
      ∃ t, PSs (cxOf CX0 P w K mg base N qual (defScope st) f (.ref c) A outer s H E).nox (defBody st) t ∧ t { nx := fun _ H' => Q .non H', rt := Q } (start N vs) H) : FnG P w K mg base (k + 1) f fd ps sp := by
  obtain ⟨oc, od, kV, doc, pm, an, ct, osl, rfl, lk, hcd⟩ := F.ex
  exact okG0 lk hcd S len walk
end
section
variable {X : Cx} {k i : Nat} {f : Addr} {fd : FuncData} {ps : List Str} {sp : Sp} {x : Str} {p pos : Pos} {e : Expr} {es : List Expr} {t : TA}
def tCallG (sp : Sp) (t : TA) : TE := fun σ H Q => t σ H fun vs H1 => sp vs H1 Q (fun _ _ _ => True)
theorem pe_callG (F : FnG X.prog X.w X.K X.mg X.base k f fd ps sp) (hgd : X.A.guards = some []) (hr : Room k X.A) (hg : Gl X x) (hm : X.mg x = some (.ref f)) (hk : PySem.W.keepIn X.K (.ref f) = true) (hb : Binds X.K fd ps []) (ha : PA X (e :: es) t)
    (hdb : ((x == ("__debug__" : Str)) = false) := by decide) (he : starEach (e :: es) X.env = (false, eval e X.env) :: starEach es X.env := by rfl) (hpl : (backTo pos (starEach es X.env)).any (·.1) = false := by rfl) :
    PE X (.Call (.Name x p) (e :: es) [] pos) (tCallG sp t) := by
  constructor
  intro pins s σ H Q I h
  refine wpAny_Call_Name_kw (ld_glob I hg hm (PySem.W.callWith_K (h₀ := X.base) I.ok.mod.kin hk (thn (ha.run pos pins s σ H _ I h) ?_) he hpl) hdb)
  rintro us s1 ⟨vs, H1, I1, r, q⟩
  refine ⟨I1.kIn, ?_⟩
  have hl : us.length = ps.length := r.length.symm.trans (F.len _ _ _ _ q)
  have b := hb s1 us I1.kIn (by rw [List.append_nil]; exact hl)
  rw [List.append_nil] at b
  refine wpAny_call (codeAny_mono (F.run X.A X.stack s1 H1 ⟨us, []⟩ us vs Q _ hgd hr I1.env0 b r q) ?_)
  intro r s2 hq
  match r, hq with
  | .error _, hq => exact False.elim hq
  | .ok (.ret u), hq => exact I1.after hq
  | .ok .next, hq => exact False.elim hq
  | .ok .brk, hq => exact False.elim hq
  | .ok .cont, hq => exact False.elim hq
/-- a def that may raise, held by a local name -/
structure HeldX (P : Program) (w : World) (K : PySem.W.Frag) (mg : Str → Option Value) (base : Heap) (k : Nat) (f : Addr) (sp : Sp) : Prop where
  ex : ∃ (fd : FuncData) (ps : List Str), FnOk P w K mg base (L2.CX P w) k f fd ps sp ∧ PySem.W.keepIn K (.ref f) = true ∧ Binds K fd ps []
def tCallHX (Hd : Addr → Sp → Prop) (i : Nat) (E : L2.St → XK) (t : TA) : TE := fun σ H Q => ∃ f sp, σ[i]? = some (some (.ref f)) ∧ Hd f sp ∧ t σ H fun vs H1 => sp vs H1 Q (E σ)
theorem pe_callHX {E : L2.St → XK} (hr : Room k X.A) (hN : X.N[i]? = some x) (hv : Vis X.env.scope x) (hx : ∀ σ, PassesAt (L2.CX X.prog X.w) X σ (E σ)) (ha : PA X (e :: es) t) (hdb : (x == ("__debug__" : Str)) = false := by decide) (hcd : (x == ("__classdict__" : Str)) = false := by decide)
    (he : (starEach (e :: es) X.env = (false, eval e X.env) :: starEach es X.env) := by rfl) (hpl : ((backTo pos (starEach es X.env)).any (·.1) = false) := by rfl) :
    PE X (.Call (.Name x p) (e :: es) [] pos) (tCallHX (HeldX X.prog X.w X.K X.mg X.base k) i E t) := by
  constructor
  rintro pins s σ H Q I ⟨f, sp, hs, hH, ht⟩
  obtain ⟨fd, ps, F, hk, hb⟩ := hH.ex
  refine wpAny_Call_Name_kw (thn ((pe_var (pos := p) hN hv hdb hcd).run pins s σ H (fun v H1 => v = .ref f ∧ H1 = H) I ⟨.ref f, hs, rfl, rfl⟩) ?_)
  rintro u s1 ⟨v, H1, I1, r1, rfl, rfl⟩
  cases r1
  exact PySem.W.callWith_K (h₀ := X.base) I.ok.mod.kin hk (thn (ha.run pos pins s1 σ _ _ I1 ht) fun us s2 ⟨vs, H2, I2, r, q⟩ => ⟨I2.kIn, run_fnS F hr hb (hx σ) I2 r q⟩) he hpl
/-- isinstance(the caught error, its own class) -/
def rIsX (a : Addr) (cls : Value) (d : Option Addr) (C : Addr) : List V → Hp → VK → Prop := fun xs H Q => xs = [.ref a, .ref C] ∧ cls = .ref C ∧ (∃ (dd : Addr) (fs : List (Str × V)), d = some dd ∧ H dd = some (.xd fs)) ∧ Q (.bl true) H
theorem call_isX {a C : Addr} {oe : Obj} {cls : Value} {d : Option Addr} {pn : List (Addr × Obj)} (hz : Zc cls d oe) (hf : ∃ vs, oe.data = .fields vs) : CallR (X.suite a ((a, oe) :: pn)) (.builtin "isinstance") (rIsX a cls d C) := by
  rintro pins s σ H xs us Q I r ⟨rfl, rfl, ⟨dd, fs, rfl, hd⟩, q⟩
  obtain ⟨u1, u2, rfl, r1, r2⟩ := vals2 r; skip
  obtain rfl : u1 = Value.ref a := r1
  obtain rfl : u2 = Value.ref C := r2
  obtain ⟨ha, _⟩ := I.pin (a, oe) (List.mem_append_left _ List.mem_cons_self)
  obtain ⟨vs, hv⟩ := hf
  obtain ⟨mA, hns, hr⟩ : ObjOk X.prog X.w H s.heap dd (.xd fs) := I.hok dd _ hd
  obtain ⟨od, ho, hl⟩ := lookIn_ns hns; skip
  have J : PySem.W.InstAt s.heap a oe C (some od) := ⟨ha, hz.1, by unfold PySem.W.notCls; rw [hv] <;> rfl, by rw [hz.2]; exact ho⟩
  refine call_isinstance (S := fun _ R s2 => s2 = s ∧ R (.ok (.ret (.bool true))) s2) ?_ ⟨rfl, .bl true, H, I, rfl, q⟩
  rintro prog w A R s2 ⟨rfl, hR⟩
  refine isinstance_outer ?_ (fun z => by cases z)
  unfold Builtin.«isinstance.nested»; skip
  refine wpAny_bind ((J.type (M := model prog w)).at ?_)
  rw [if_pos (beq_self_eq_true _)]; skip
  first
    | exact wpAny_bind (wpAny_rule (hR))
    | exact wpAny_bind (wpAny_rule (wpAny_pure hR))
    | exact wpAny_pure hR
end
end Pl

namespace Pl
open L2 PySem PySem.Spec PyProof.Rows
abbrev SuT := Value × (Addr → Value → Option Addr → TS)
/-- what clauses «except x as n» (all of one name n, slot i) wish of an exception, one behind another -/
def wAll (K : PySem.W.Frag) (i : Nat) (Wo : WX) (D : Ends) : List SuT → WX
  | [] => Wo
  | q :: r => wAs K q.1 i q.2 (wAll K i Wo D r) D
/-- the clauses, each with its class and its suite -/
inductive Cls (X : Cx) (n : Str) : List ExceptHandler → List SuT → Prop
  | nil : Cls X n [] []
  | cons {x : Str} {c : Value} {ts : Addr → Value → Option Addr → TS} {b1 : Stmt} {bs : List Stmt} {p1 p2 : Pos} {hs : List ExceptHandler} {l : List SuT} (names : Names X x c)
      (suite : ∀ (a : Addr) (o : Obj) (k : Value) (d : Option Addr) (pn : List (Addr × Obj)), Zc k d o → (∃ vs, o.data = .fields vs) → PSs (X.suite a ((a, o) :: pn)) (b1 :: bs) (ts a k d)) (rest : Cls X n hs l) :
      Cls X n (.ExceptHandler (some (.Name x p1)) (some n) (b1 :: bs) p2 :: hs) ((c, ts) :: l)
section
variable {X : Cx} {n : Str} {i : Nat} {Wo : WX} {D : Ends} {pins : List (Addr × Obj)} {H : Hp} {σ : L2.St} {s0 s1 : Shared}
/-- an exception of the class k, dict d, at a, on its way past the clauses -/
structure Onway (X : Cx) (pins : List (Addr × Obj)) (σ : L2.St) (H : Hp) (s0 s1 : Shared) (B : Heap) (a : Addr) (k : Value) (d : Option Addr) (g : Heap) : Prop where
  inv : Inv X pins σ H s0
  fly : HandSPX.FlyingZ B (X.env :: X.outer) a (Zc k d) g
  nb : ∀ b o, s0.heap.get? b = some o → b ∉ frs X.stack → B.get? b = some o
  up : s0.heap.UpToSlots g
  new : H a = none
  os : s1.os = s0.os
  bare : AllBare s1.gens
theorem Onway.now {B g : Heap} {a : Addr} {k : Value} {d : Option Addr} (w : Onway X pins σ H s0 s1 B a k d g) : Inv X pins σ H { s1 with heap := g } := w.inv.landed w.nb w.fly.1 w.up w.os w.bare
theorem Onway.far {B g : Heap} {a : Addr} {k : Value} {d : Option Addr} (w : Onway X pins σ H s0 s1 B a k d g) {o : Obj} {vs : Array Value} (ho : g.get? a = some o) (hd : o.data = .fields vs) : a ∉ frs (X.env :: X.outer) := by
  intro m
  obtain ⟨_, o2, e2, nf⟩ := w.fly.2.2.1.mem m
  cases ho.symm.trans e2
  exact nf _ hd
theorem clauses (hs : X.stack = X.env :: X.outer) (hf : X.env.frame = some X.env.locals) (nd : X.N.Nodup) (hi : X.N[i]? = some n) (hn : X.env.kindOf n = some .local) (tk : Takes X Wo) {B : Heap} {a : Addr} {k : Value} {d : Option Addr} {hds : List ExceptHandler} {l : List SuT} (cl : Cls X n hds l) :
    ∀ g : Heap, Onway X pins σ H s0 s1 B a k d g → wAll X.K i Wo D l k d σ H → wpAny (model X.prog X.w) X.A (handleBy (.ref a) X.env hds) (SP X pins D) X.xe { s1 with heap := g } := by
  induction cl with
  | nil =>
    intro g w hw
    refine wpAny_handleBy_nil ?_
    obtain ⟨_, _, _, o, vs, T, _, _, ho, _, hd, h1, _⟩ := id w.fly
    have last : wpAny (model X.prog X.w) X.A (setFlight (.ref a) X.env.frame) (fun _ s4 => wpAny (model X.prog X.w) X.A (throw (.ref a) : Sem Flow) (SP X pins D) X.xe s4) X.xe { s1 with heap := g } := by
      rw [hf]
      exact HandSPX.setFlight_upZ w.fly fun h4 held more => wpAny_throw (tk _ _ ⟨a, B, s0, pins, σ, H, k, d, rfl, w.inv, w.nb, w.up.trans more, .inr (.inr (hs ▸ held)), w.new, w.os, w.bare, hw⟩)
    unfold PySem.passOn
    refine wpAny_bind (wpAny_field ho hd h1 ?_)
    rw [if_neg (by simp : ¬ ((Value.ref T == Value.none) = true))]
    first | exact wpAny_bind last | exact wpAny_bind (wpAny_pure (wpAny_bind last))
  | @cons x c ts b1 bs p1 p2 hds2 l2 names suite rest ih =>
    intro g w hw
    obtain ⟨b, hb, yes, no⟩ := hw
    obtain ⟨o, vs, ho, hz, hd⟩ := w.fly.there
    have notL : a ≠ X.env.locals := fun e => w.far ho hd (List.mem_filterMap.mpr ⟨X.env, List.mem_cons_self, by rw [hf, e]⟩)
    have notF : a ∉ X.fs := fun m => by
      obtain ⟨e, he, q⟩ := List.mem_filterMap.mp m
      exact w.far ho hd (List.mem_filterMap.mpr ⟨e, List.mem_cons_of_mem _ he, q⟩)
    refine wpAny_handleBy_cons (codeAny_handlers_test ?_) (fun q => by cases q)
    have look : PySem.W.Looks (model X.prog X.w) g (typeOf (.ref a)) k := fun A Q E s kp q => wpAny_typeOf_ref (kp _ _ ho) (hz.1 ▸ q)
    have told := PySem.W.exm_one (M := model X.prog X.w) w.now.kIn look hb
    have inS := w.now.suite ho hd w.new notL notF
    have asked : ∀ {Q E : Value → Shared → Prop}, Q c { s1 with heap := g } → wpAny (model X.prog X.w) (X.A.mark (some (.ref a))) (eval (.Name x p1) X.env) Q E { s1 with heap := g } := fun {Q E} q => by
      rcases names with ⟨gl, db, m | ⟨m, v, nn⟩⟩
      · exact ld_glob (X := X.suite a ((a, o) :: (X.pn ++ pins))) inS gl m q db
      · exact ld_blt (X := X.suite a ((a, o) :: (X.pn ++ pins))) inS gl m v q nn db
    refine asked (told.here ?_)
    cases b with
    | false => exact ih g w (no rfl)
    | true =>
      refine codeAny_handlers_suite_as (HandSPX.lands_againZ w.fly fun g4 fly4 up4 => ?_)
      have w4 : Onway X pins σ H s0 s1 B a k d g4 := ⟨w.inv, fly4, w.nb, w.up.trans up4, w.new, w.os, w.bare⟩
      obtain ⟨o4, vs4, ho4, hz4, hd4⟩ := w4.fly.there
      refine store_ok (X := X.suite a ((a, o4) :: (X.pn ++ pins))) (v := .ref a) (w4.now.suite ho4 hd4 w4.new notL notF) nd hi (.inl hn) rfl (fun s5 I5 => ?_) (.inr hn)
      refine wpAny_mono ((suite a o4 k d (X.pn ++ pins) hz4 ⟨_, hd4⟩).run [] s5 _ H _ I5 (yes rfl a w4.new)) (fun f s6 hsp => ?_) (fun _ _ z => z.elim)
      have behind : ∀ {σ6 : L2.St} {H6 : Hp} {Q : Shared → Prop}, Inv (X.suite a ((a, o4) :: (X.pn ++ pins))) [] σ6 H6 s6 → (∀ s7, Inv X pins (σ6.set i none) H6 s7 → Q s7) →
          wpAny (model X.prog X.w) X.A (do bindName X.env n .none; unbindBehindTheSuite X.env n p2) (fun _ s7 => Q s7) X.xe s6 := fun {σ6 H6 Q} I6 q => gone_ok (I6.unsuite w.inv.ok) nd hi hn q
      cases f with
      | ret u =>
        obtain ⟨v, σ6, H6, I6, r, q⟩ := hsp
        exact behind I6 fun s7 I7 => ⟨_, _, _, I7, r, q⟩
      | next =>
        obtain ⟨σ6, H6, I6, q⟩ := hsp
        exact behind I6 fun s7 I7 => ⟨_, _, I7, q⟩
      | brk =>
        obtain ⟨σ6, H6, I6, q⟩ := hsp
        exact behind I6 fun s7 I7 => ⟨_, _, I7, q⟩
      | cont =>
        obtain ⟨σ6, H6, I6, q⟩ := hsp
        exact behind I6 fun s7 I7 => ⟨_, _, I7, q⟩
/-- try: body / except x as n: .. / except y as n: .. -/
theorem ps_try_all {body : List Stmt} {h0 : ExceptHandler} {hds : List ExceptHandler} {l : List SuT} {pos : Pos} {tb : WX → TS} (hs : X.stack = X.env :: X.outer) (hf : X.env.frame = some X.env.locals) (nd : X.N.Nodup) (hi : X.N[i]? = some n) (hn : X.env.kindOf n = some .local) (tk : Takes X Wo)
    (hb : ∀ (W : WX) (pn : List (Addr × Obj)) (xe : Value → Shared → Prop), Takes (X.tr pn xe) W → PassesOwn (model X.prog X.w) X.A X.env xe → PSs (X.tr pn xe) body (tb W)) (cl : Cls X n (h0 :: hds) l) :
    PS X (.Try body (h0 :: hds) [] [] pos) (fun D σ H => tb (wAll X.K i Wo D l) D σ H) := by
  constructor
  intro pins s σ H D I h
  have ok := I.ok
  have frames : X.A.frames = some (X.env :: X.outer) := by rw [ok.frames, hs]
  refine wpAny_Try_except (wpAny_mono ((hb (wAll X.K i Wo D l) (X.pn ++ pins) (fun e sa => wpAny (model X.prog X.w) X.A (noteFrame e X.env) (fun _ sb => wpAny (model X.prog X.w) X.A (setFlight e none) (fun _ sc =>
    wpAny (model X.prog X.w) X.A (handleBy e X.env (h0 :: hds)) (SP X pins D) X.xe sc) X.xe sb) X.xe sa) (fun u s1 thrown => ?_) PassesOwn.looking).run [] s σ H D (I.toTry _) h) (fun f s1 hsp => ?_) (fun _ _ z => z))
  · obtain ⟨a, B, s0, ps, σ1, H1, k, d, rfl, I1, nb, up, sky, new, os, bare, hw⟩ := thrown
    refine Sky.land Zc.steady frames hf (hs ▸ sky) fun g fly more => ?_
    exact clauses hs hf nd hi hn tk cl g ⟨I1.ofTry ok, fly, nb, up.trans more, new, os, bare⟩ hw
  · cases f with
    | ret u =>
      obtain ⟨v, σ1, H1, I1, r, q⟩ := hsp
      exact ⟨v, σ1, H1, I1.ofTry ok, r, q⟩
    | next =>
      obtain ⟨σ1, H1, I1, q⟩ := hsp
      exact wpAny_execs_nil ⟨σ1, H1, I1.ofTry ok, q⟩
    | brk =>
      obtain ⟨σ1, H1, I1, q⟩ := hsp
      exact ⟨σ1, H1, I1.ofTry ok, q⟩
    | cont =>
      obtain ⟨σ1, H1, I1, q⟩ := hsp
      exact ⟨σ1, H1, I1.ofTry ok, q⟩
end
end Pl

namespace Pl
open L2 PySem PySem.Spec PyProof.Rows
/-- the law is entered: tables (of code objects; cs: both) stand empty, nothing is being written out -/
theorem law_callM {P : Program} {w : World} {K : PySem.W.Frag} {mg mb : Str → Option Value} {k : Nat} {fa a : Addr} {cs : List (Addr × Addr)} {fd : FuncData} {x : Str} {sp : Sp} {t : Shared} {us : List Value} {ns : List Int}
    (kin : K.In t.heap) (gns : t.heap.Ns mainGlobals mg) (bns : t.heap.Ns builtinsNs mb) (bbt : ∀ y : Str, y ≠ "__name__" → mb y = bootBuiltins y) (nol : t.heap.NoLimit) (gen : t.gens = #[])
    (tab : ∀ q ∈ cs, t.heap.get? q.2 = some { cls := .none, data := .fields #[] }) (notK : ∀ q ∈ cs, K.lookup q.2 = none) (hc : ∀ q ∈ cs, PySem.W.CodeHd t.heap q.1 q.2)
    (bmn : ∃ (bm : Addr) (ob : Obj), mg "__builtins__" = some (.ref bm) ∧ bm ≠ builtinsNs ∧ t.heap.get? bm = some ob ∧ ob.cls = .type "module" ∧ ob.dict = some builtinsNs ∧ ob.data = .plain)
    (la : t.heap.get? a = some { cls := .type "list", data := .seq us.toArray }) (nums : IntsAre us ns) (short : ns.length ≤ sizeLine) (room : Room k callerA)
    (fn : ∀ base : Heap, K.In base → base.Ns mainGlobals mg → (∀ q ∈ cs, LamX.TabB base mg q.1 q.2) → FnG P w K mg base k fa fd [x] sp) (bind : ∀ (s : Shared) (u : Value), BindsTo s fd ⟨[u], []⟩ [(x, u)])
    (want : ∀ H : Hp, (∀ q ∈ cs, H q.2 = some (.tbl #[])) → SqL K H a (ns.map V.int) → sp [.ref a] H (fun v _ => v = .bl true) fun _ _ _ => True) :
    codeAny (model P w) callerA (.call (.ref fa) ⟨[.ref a], []⟩) (fun r s2 => r = .ok (.ret (.bool true)) ∧ OldK t.heap s2.heap ∧ s2.os = t.os ∧ AllBare s2.gens) t := by
  have rel := vals_ints nums
  have count := nums.length
  have at_ : ∀ b, (∃ q ∈ cs, b = q.2) → t.heap.get? b = some { cls := .none, data := .fields #[] } := fun b ⟨q, hq, e⟩ => e ▸ tab q hq
  have aPt : ¬ ∃ q ∈ cs, a = q.2 := fun e => by
    rw [at_ a e] at la
    have z : Data.fields #[] = Data.seq us.toArray := congrArg Obj.data (Option.some.inj la)
    cases z
  have main : ∀ H : Hp, (∀ q ∈ cs, H q.2 = some (.tbl #[])) → (∀ b, H b = none ∨ (∃ q ∈ cs, b = q.2) ∨ ∃ o xs, H b = some (.frz o (.lst xs))) → SqL K H a (ns.map V.int) → HOk P w H t.heap → (∀ b, H b ≠ none → b = a ∨ ∃ q ∈ cs, b = q.2) → (H a ≠ none → K.lookup a = none) →
      codeAny (model P w) callerA (.call (.ref fa) ⟨[.ref a], []⟩) (fun r s2 => r = .ok (.ret (.bool true)) ∧ OldK t.heap s2.heap ∧ s2.os = t.os ∧ AllBare s2.gens) t := by
    intro H hPt kinds seq ok only free
    have look : ∀ {b : Addr} {o : Obj}, t.heap.get? b = some o → H b = none → (hidT t.heap H).get? b = some o := fun {b o} e n => hidT_get e n
    have off : ∀ {b : Addr} {o : Obj}, t.heap.get? b = some o → (∀ ws n, o.data ≠ .seq ws n) → o.data ≠ .fields #[] → H b = none := fun {b o} e n1 n2 => by
      cases hb : H b with
      | none => rfl
      | some u =>
        rcases only b (by rw [hb]; simp) with rfl | isT
        · rw [la] at e
          cases e
          exact absurd rfl (n1 _ _)
        · rw [at_ b isT] at e
          cases e
          exact absurd rfl n2
    have nspace : ∀ {b : Addr} {m : Str → Option Value}, t.heap.Ns b m → (hidT t.heap H).Ns b m := fun {b m} ⟨o, es, ep, e, d, r⟩ =>
      ⟨o, es, ep, look e (off e (fun ws n z => by rw [d] at z; cases z) fun z => by rw [d] at z; cases z), d, r⟩
    have kbase : K.In (hidT t.heap H) := fun b o e => look (kin b o e) (by
      cases hb : H b with
      | none => rfl
      | some u =>
        rcases only b (by rw [hb]; simp) with rfl | ⟨q, hq, rfl⟩
        · rw [free (by rw [hb]; simp)] at e
          cases e
        · rw [notK q hq] at e
          cases e)
    obtain ⟨mc, l1, l2⟩ := nol
    have modu : L2.Mod K mg (hidT t.heap H) := ⟨kbase, nspace gns, ⟨mb, nspace bns, bbt⟩, mc, nspace l1, l2⟩
    have tabs : ∀ q ∈ cs, LamX.TabB (hidT t.heap H) mg q.1 q.2 := fun q hq => by
      have tabq := tab q hq
      obtain ⟨oc, fs, file, tf, flags, tg, inF, text, tt, e1, r1, r2, r3, r4, r5, r6, r7, r8, r9⟩ := id (hc q hq)
      obtain ⟨bm, ob, b1, b2, b3, b4, b5, b6⟩ := bmn
      obtain ⟨og, eg, epg, g1, g2, _⟩ := id gns
      refine ⟨⟨oc, fs, file, tf, flags, tg, inF, text, tt, look e1 (off e1 (fun ws n z => ?_) fun z => ?_), r1, r2, r3, r4, r5, r6, r7, r8, r9⟩, ⟨bm, ob, b1, b2, fun z => ?_, fun z => ?_, look b3 (off b3 (fun ws n z => ?_) fun z => ?_), b4, b5, b6⟩, fun z => ?_⟩
      · rw [r2] at z
        cases z
      · rw [r2] at z
        cases z
        simp at r3
      · rw [z, g1] at b3
        cases b3
        rw [g2] at b6
        cases b6
      · rw [z, tabq] at b3
        cases b3
        cases b6
      · rw [b6] at z
        cases z
      · rw [b6] at z
        cases z
      · rw [z, tabq] at g1
        cases g1
        cases g2
    have env : Env0 P w K mg (hidT t.heap H) callerA [] t H := ⟨rfl, modu, fun b o e => of_hidT e, Nat.le_of_eq (hidT_size _ _), trivial, (fun b hb => absurd (show b ∈ ([] : List Addr) from hb) List.not_mem_nil), ok, .of_eq gen⟩
    refine codeAny_mono ((fn _ kbase (nspace gns) tabs).run callerA [] t H ⟨[.ref a], []⟩ [.ref a] [.ref a] _ _ rfl room env (bind t (.ref a)) (.cons rfl .nil) (want H hPt seq)) ?_
    intro r s2 hr
    match r, hr with
    | .error _, hr => exact False.elim hr
    | .ok .next, hr => exact False.elim hr
    | .ok .brk, hr => exact False.elim hr
    | .ok .cont, hr => exact False.elim hr
    | .ok (.ret u), ⟨v, H2, os, bare, un, ok2, ru, ev⟩ =>
      obtain rfl : v = .bl true := ev
      obtain rfl : u = Value.bool true := ru
      have stay : ∀ b o, (¬ ∃ q ∈ cs, b = q.2) → t.heap.get? b = some o → s2.heap.get? b = some o := fun b o nb e => by
        rcases kinds b with hb | hb | ⟨ob, xs, hb⟩
        · exact un.keep b o e hb (fun z => absurd (show b ∈ ([] : List Addr) from z) List.not_mem_nil) (by simp)
        · exact absurd hb nb
        · obtain ⟨i1, _⟩ := ok b _ hb
          obtain ⟨i2, _⟩ := ok2 b _ (un.frzs b ob _ hb)
          rw [e] at i1
          cases i1
          exact i2
      have now : ∀ q ∈ cs, ∃ more : Array Value, s2.heap.get? q.2 = some { cls := .none, data := .fields (#[] ++ more) } := fun q hq => by
        obtain ⟨more, grow⟩ := un.tbls q.2 #[] (hPt q hq)
        exact ⟨more, ok2 q.2 _ grow⟩
      refine ⟨rfl, ⟨fun b o e => ?_, fun b o e => ?_⟩, os, bare⟩; skip
      · by_cases hb : ∃ q ∈ cs, b = q.2
        · obtain ⟨q, hq, rfl⟩ := hb
          obtain ⟨more, hm⟩ := now q hq
          have tabq := tab q hq
          rw [tabq] at e
          cases e
          exact .inr (.inl ⟨((hc q hq).tab tabq).isCodeTable, rfl, #[], more, rfl, hm⟩)
        · exact .inl (stay b o hb e)
      · by_cases hb : ∃ q ∈ cs, b = q.2
        · obtain ⟨q, hq, rfl⟩ := hb
          obtain ⟨more, hm⟩ := now q hq
          exact ⟨_, hm⟩
        · exact ⟨o, stay b o hb e⟩
  cases hk : K.lookup a with
  | some o =>
    have e := kin a o hk
    rw [la] at e
    cases e
    refine main (fun b => if ∃ q ∈ cs, b = q.2 then some (.tbl #[]) else none) (fun q hq => if_pos ⟨q, hq, rfl⟩) (fun b => ?_) (.inr ⟨_, us.toArray, _, hk, rfl, rfl, rfl, by rw [List.size_toArray, count]; exact short, by simpa using rel⟩) (fun b u z => ?_) (fun b z => ?_) fun z => absurd (if_neg aPt) z
    · by_cases hb : ∃ q ∈ cs, b = q.2
      · exact .inr (.inl hb)
      · exact .inl (if_neg hb)
    · by_cases hb : ∃ q ∈ cs, b = q.2
      · have z2 := (if_pos hb).symm.trans z
        cases z2
        exact at_ b hb
      · have z2 := (if_neg hb).symm.trans z
        cases z2
    · by_cases hb : ∃ q ∈ cs, b = q.2
      · exact .inr hb
      · exact absurd (if_neg hb) z
  | none =>
    refine main (fun b => if b = a then some (.frz { cls := .type "list", data := .seq us.toArray } (.lst (ns.map V.int))) else if ∃ q ∈ cs, b = q.2 then some (.tbl #[]) else none) (fun q hq => (if_neg (fun e => aPt ⟨q, hq, e.symm⟩)).trans (if_pos ⟨q, hq, rfl⟩)) (fun b => ?_) (.inl (.inr ⟨_, if_pos rfl⟩)) (fun b u z => ?_) (fun b z => ?_) fun _ => hk
    · by_cases h1 : b = a
      · exact .inr (.inr ⟨_, _, if_pos h1⟩)
      · by_cases h2 : ∃ q ∈ cs, b = q.2
        · exact .inr (.inl h2)
        · exact .inl ((if_neg h1).trans (if_neg h2))
    · by_cases h1 : b = a
      · have z2 := (if_pos h1).symm.trans z
        cases z2
        rw [h1]
        exact ⟨la, by rw [List.length_map]; exact short, us, _, rel, la⟩
      · have z2 := (if_neg h1).symm.trans z
        by_cases h2 : ∃ q ∈ cs, b = q.2
        · have z3 := (if_pos h2).symm.trans z2
          cases z3
          exact at_ b h2
        · have z3 := (if_neg h2).symm.trans z2
          cases z3
    · by_cases h1 : b = a
      · exact .inl h1
      · by_cases h2 : ∃ q ∈ cs, b = q.2
        · exact .inr h2
        · exact absurd ((if_neg h1).trans (if_neg h2)) z
/-- what the top leaves of the law: T, the tables with the names of what is made there -/
def LawM (l : PySem.W.OpenLaw) (w : World) (K : PySem.W.Frag) (mg : Str → Option Value) (fa : Addr) (h : Heap) (k : Nat) (sp : List (Addr × Addr) → Sp) : Prop :=
  ∃ (fd : FuncData) (cs : List (Addr × Addr)), (∀ q ∈ cs, h.get? q.2 = some { cls := .none, data := .fields #[] }) ∧ (∀ q ∈ cs, K.lookup q.2 = none) ∧ (∀ q ∈ cs, PySem.W.CodeHd h q.1 q.2) ∧ (∀ (s : Shared) (u : Value), BindsTo s fd ⟨[u], []⟩ [("_law_script", u)]) ∧
    ∀ base : Heap, K.In base → base.Ns mainGlobals mg → (∀ q ∈ cs, LamX.TabB base mg q.1 q.2) → FnG l.prog w K mg base k fa fd ["_law_script"] (sp cs)
theorem walkM {l : PySem.W.OpenLaw} {n k : Nat} {qp : Program} {loose : List Str} {XP : (Str → Option Value) → Heap → Prop} {YP : World → Heap → Prop} {d : DefRec} {K : Params → PySem.W.Frag} {sp : World → List (Addr × Addr) → Sp}
    (hn : l.most = some n) (hn2 : n ≤ sizeLine) (hdf : d.params.defaults = []) (room : Room k callerA) (hY : ∀ (w : World) (h : Heap), YP w h → (K w.params).In h)
    (want : ∀ (w : World) (cs : List (Addr × Addr)) (H : Hp) (a : Addr) (ns : List Int), (∀ q ∈ cs, H q.2 = some (.tbl #[])) → SqL (K w.params) H a (ns.map V.int) → sp w cs [.ref a] H (fun v _ => v = .bl true) fun _ _ _ => True)
    (F : ∀ (w : World) (mg : Str → Option Value) (fa : Addr) (h : Heap), YP w h → (K w.params).In h → h.Ns mainGlobals mg → mg d.name = some (.ref fa) → LawM l w (K w.params) mg fa h k (sp w)) :
    PySem.W.WalkO qp loose XP YP l.row.toRowW d [] (fun f vs => PySem.call f vs) := by
  refine Att.attach_callB hn hdf ?_
  intro w s₀ s₁ mg mb fa o pm cd doc a vs ns G Y ho hd hcd hmg hobj hints hlen hbits hg
  obtain ⟨fd, cs, tab, notK, hc, bind, fn⟩ := F w mg fa _ Y (hY w _ Y) G.T.g hmg
  exact law_callM (hY w _ Y) G.T.g G.T.b G.T.builtins G.T.nolimit hg tab notK hc G.T.bmain hobj hints (Nat.le_trans hlen hn2) room fn bind fun H hPt seq => want w cs H a ns hPt seq
end Pl

namespace Pl
open L2 PySem PySem.Spec PyProof.Rows
set_option maxHeartbeats 4100000 in
/-- enumerate(v) of anything that begins so -/
theorem meets_enumB {v : Value} {o : Obj} {Hb : Heap → Prop} (B : Begins v o Hb) :
    Meets (Builtin.«enumerate.__new__» ⟨[.type "enumerate", v], []⟩) (fun _ R s => Hb s.heap ∧
      R (.ok (.ret (.ref (s.heap.push o).objs.size))) { s with heap := (s.heap.push o).push { cls := .type "enumerate", data := .fields #[.none, .bool false, .ref s.heap.objs.size, rawInt 0, .none, .none] } }) := by
  refine .of_wp ?_
  rintro prog w A R ⟨hp, gn, dr, tk, os⟩ ⟨h1, goal⟩
  have isub := sub_enumerate
  have first_ : ∀ {A' : Around} {E : Value → Shared → Prop} {Q : Value → Shared → Prop}, Q (.ref hp.objs.size) ⟨hp.push o, gn, dr, tk, os⟩ → wpAny (model prog w) A' (pyIter v) Q E ⟨hp, gn, dr, tk, os⟩ := fun q => B.iter prog w _ _ ⟨hp, gn, dr, tk, os⟩ _ h1 q
  wp_walk using first_
  refine wpAny_stack_any fun st => wpAny_pure ?_; skip
  split
  · rename_i c _ _ _ _ _
    cases (c == Value.type "enumerate") <;> (wp_walk using first_; exact ⟨_, rfl, goal⟩)
  · wp_walk using first_
    exact ⟨_, rfl, goal⟩
theorem enum_new {prog : Program} {w : World} {A : Around} {E : Value → Shared → Prop} {s : Shared} {v : Value} {o : Obj} {Hb : Heap → Prop} {Q : Value → Shared → Prop} (B : Begins v o Hb) (h1 : Hb s.heap)
    (q : ∀ g, IsEnum g (s.heap.objs.size + 1) s.heap.objs.size 0 .none → g.get? s.heap.objs.size = some o → (∀ b u, s.heap.get? b = some u → g.get? b = some u) → Q (.ref (s.heap.objs.size + 1)) { s with heap := g }) :
    wpAny (model prog w) A (call (.type "enumerate") [v]) Q E s := by
  refine callType_new F.called_enumerate (by decide) (F.typeCall_enumerate_1 _) (F.newCall_enumerate_1 _) (fun obj => F.args_object_init_2 obj _) F.entry_enumerate_new (meets_enumB B) ⟨h1, ?_⟩
  have size : (s.heap.push o).objs.size = s.heap.objs.size + 1 := Heap.size_push ..
  have at_ := Heap.get?_push_size (s.heap.push o) (o := { cls := .type "enumerate", data := .fields #[.none, .bool false, .ref s.heap.objs.size, rawInt 0, .none, .none] }) rfl
  rw [size] at at_
  show _ ∧ _
  rw [size]
  exact ⟨⟨_, at_, rfl⟩, q _ at_ (Heap.get?_push_of_some _ (Heap.get?_push_size _ B.free)) fun b u e => Heap.get?_push_of_some _ (Heap.get?_push_of_some _ e)⟩
/-- the tuple at a, each item with its number in a new pair -/
def Iet (K : PySem.W.Frag) (a : Addr) : It :=
  ⟨fun i H => ∃ (xs : List V) (x : V), SqT K H a xs ∧ xs[i]? = some x, fun i H v G => ∃ T x, v = .ref T ∧ H T = none ∧ G = upd H T (.tup [.int (i : Nat), x]) ∧ ∀ xs, SqT K H a xs → xs[i]? = some x, fun i H => ∃ xs : List V, SqT K H a xs ∧ xs.length = i⟩
theorem turn_enumT {P : Program} {w : World} {K : PySem.W.Frag} {elts : List Expr} {kk : Nat} {tpos : Pos} (a e it : Addr) :
    Turn P w K (.Tuple elts kk tpos) (Iet K a) [e, it] e (fun i h => (∃ old, IsEnum h e it ((i : Nat) : Int) old) ∧ h.IsTupleIter it a i ∧ e ≠ it ∧ a ≠ it ∧ a ≠ e) where
  mem := List.mem_cons_self
  obj := by
    rintro i h ⟨⟨old, he⟩, ⟨o, ho, hc, hd⟩, _⟩ b hb
    rcases List.mem_cons.mp hb with rfl | hb; skip
    · exact ⟨_, he, fun v q => nomatch q⟩
    · rw [List.mem_singleton.mp hb]; skip
      exact ⟨o, ho, fun v q => by rw [hd] at q; cases q⟩
  keep := by
    rintro i h g ⟨⟨old, he⟩, hit, n⟩ k
    exact ⟨⟨old, k e (by simp) _ he⟩, hit.at fun o q => k it (by simp) o q, n⟩
  item := by
    rintro X rfl rfl rfl hc i pins s σ H E I hf ⟨⟨old, he⟩, hit, n1, n2, n3⟩ ⟨xs, x, hq, hx⟩
    obtain ⟨its, rv, p, hz⟩ := I.tuple hq; skip
    obtain ⟨u, hu, ru⟩ := rv.get hx; skip
    have le : e < s.heap.objs.size := Heap.lt_size he
    have li : it < s.heap.objs.size := by
      obtain ⟨_, q, _⟩ := hit
      exact Heap.lt_size q
    have lt : i < its.toArray.size := by
      rw [List.size_toArray]
      exact (List.getElem?_eq_some_iff.mp hu).1
    refine wpAny_pyNext_enum_itemD (Draws.tuple (A := X.A.in1) (I.ok.hd hc) it a n2 its.toArray) he ⟨hit, p⟩ lt n1 (by simp [n1, n3.symm]) fun y g tk hy ho st hT size hk => ?_
    have ey : y = u := by
      have e1 : its[i]? = some y := by simpa using hy
      exact Option.some.inj (e1.symm.trans hu)
    subst ey
    refine ⟨_, rfl, wpAny_letOwnedTupleGo_enum (s := { s with heap := g, toks := tk + 1 }) ho fun g2 he2 sb => ?_⟩
    have hT2 : g2.get? s.heap.objs.size = some { cls := .type "tuple", data := .seq #[.int i tk, y] } := (sb.2 _ (Nat.ne_of_gt le)).trans hT
    have new : ObjOk X.prog X.w (upd H s.heap.objs.size (.tup [.int (i : Nat), x])) g2 s.heap.objs.size (.tup [.int (i : Nat), x]) := ⟨by show 2 ≤ sizeLine; decide, [.int i tk, y], .cons ⟨_, rfl⟩ (.cons ru .nil), ⟨_, hT2, rfl, _, rfl⟩⟩
    have I1 : Inv X pins σ (upd H s.heap.objs.size (.tup [.int (i : Nat), x])) { s with heap := g2, toks := tk + 1 } :=
      I.turnedNew (ch := [e, it])
        (fun b ob hb q => (sb.2 b (fun z => hb (by simp [z]))).trans (hk b ob (fun z => hb (by simp [z])) (fun z => hb (by simp [z])) q)) hf (Nat.le_refl _) new
    refine ⟨.ref s.heap.objs.size, _, I1, rfl, ⟨_, x, rfl, I.hok.fresh (Nat.le_refl _), rfl, fun ys hy => ?_⟩, ⟨⟨y, ?_⟩, st.1.at fun o q => (sb.2 it (Ne.symm n1)).trans q, n1, n2, n3⟩, fun b hb => ?_⟩
    · rw [I.tuple_inj hy hq]
      exact hx
    · rw [show ((i + 1 : Nat) : Int) = (i : Int) + 1 from by omega]
      exact he2
    · have lb : b < s.heap.objs.size := by
        rcases List.mem_cons.mp hb with rfl | hb; skip
        · exact le
        · rw [List.mem_singleton.mp hb]; skip
          exact li
      rw [upd_ne (Nat.ne_of_lt lb)]
      exact (hf b hb).1
  done := by
    rintro X rfl rfl rfl hc i pins s σ H E I hf ⟨⟨old, he⟩, hit, n1, n2, n3⟩ ⟨xs, hq, hx⟩
    obtain ⟨its, rv, p, hz⟩ := I.tuple hq; skip
    obtain ⟨f0, f1, f2, f3, f4, f5⟩ := hf it (by simp); skip
    have len : its.toArray.size = i := by
      rw [List.size_toArray, ← rv.length]
      exact hx
    subst len
    exact wpAny_pyNext_enum_endD (Draws.tuple (A := X.A.in1) (I.ok.hd hc) it a n2 its.toArray) he ⟨hit, p⟩ fun g eb => ⟨rfl, I.turned (t' := s.toks) (fun b o hb q => eb b o hb q) f0 f1 f3 f4 f5⟩
  self := fun A i s Q E st hh => let ⟨⟨_, he⟩, _⟩ := st; wpAny_pyIter_enum he hh
def iEnumT (K : PySem.W.Frag) (ta : TA) : TI := fun σ H R => ta σ H fun vs H1 => ∃ a xs, vs = [.ref a] ∧ SqT K H1 a xs ∧ R (Iet K a) H1
theorem pi_enumT {X : Cx} {e : Expr} {ta : TA} {p pos tpos : Pos} {elts : List Expr} {kk : Nat} (hg : Gl X "enumerate") (hm : X.mg "enumerate" = none) (ha : PA X [e] ta) (hs : (starEach [e] X.env = [(false, eval e X.env)]) := by rfl) :
    PI X (.Tuple elts kk tpos) (.Call (.Name "enumerate" p) [e] [] pos) (iEnumT X.K ta) := by
  constructor
  intro pins s σ H R I h
  refine Call_ (ld_blt I hg hm boot_enumerate (PyProof.Rows.callWith_type1 (thn (ha.run pos pins s σ H _ I h) ?_) hs rfl))
  rintro us s1 ⟨vs, H1, I1, r1, a, xs, rfl, hq, q⟩
  obtain ⟨u, rfl, ru⟩ := vals1 r1; skip
  cases ru
  obtain ⟨its, rv, pt, hz⟩ := I1.tuple hq; skip
  refine enum_new (begins_tuple a its.toArray) pt fun g he hi hk => wpAny_pyIter_enum he ?_
  have la : a < s1.heap.objs.size := by
    obtain ⟨o, ho, _⟩ := pt
    exact Heap.lt_size ho
  refine ⟨s1.heap.objs.size + 1, [s1.heap.objs.size + 1, s1.heap.objs.size], _, _, H1, rfl, I1.kept (t' := s1.toks) hk, turn_enumT a (s1.heap.objs.size + 1) s1.heap.objs.size, ⟨⟨.none, he⟩, ⟨_, hi, rfl, rfl⟩, Nat.succ_ne_self _, Nat.ne_of_lt la, Nat.ne_of_lt (Nat.lt_succ_of_lt la)⟩, fun b hb => ?_, q⟩
  have le : s1.heap.objs.size ≤ b := by
    rcases List.mem_cons.mp hb with rfl | hb; skip
    · exact Nat.le_succ _
    · rw [List.mem_singleton.mp hb]; skip
      exact Nat.le_refl _
  exact I1.fpOk le (I1.hok.fresh le)
theorem walk_enumT {K : PySem.W.Frag} {a : Addr} {xs : List V} : Walk (Iet K a) xs.length (fun H => SqT K H a xs) (YPair (fun i => some (.int (i : Nat))) (fun i => xs[i]?)) := by
  refine ⟨fun i _ hi q => ⟨xs, xs[i], q, by simp [hi]⟩, fun _ q => ⟨xs, q, rfl⟩, ?_⟩
  rintro i H v H' _ q ⟨T, x, h1, h2, h3, h4⟩
  exact ⟨T, .int (i : Nat), x, h1, h2, h3, rfl, h4 xs q⟩; skip
end Pl

namespace Pl
open L2 PySem PySem.Spec PyProof.Rows
/-- list(e.values()), of a dict with flat keys -/
def tListVals (te : TE) : TE := fun σ H Q => te σ H fun x H1 => ∃ (d : Addr) (kvs : List (Key × V)), x = .ref d ∧ H1 d = some (.dK kvs) ∧ ∀ p, H1 p = none → Q (.ref p) (upd H1 p (.lst (kvs.map (·.2))))
theorem pe_listVals {X : Cx} {e : Expr} {te : TE} {p pos apos cpos : Pos} (hc : X.calm = true) (he : PE X e te) (hg : Gl X "list") (hm : X.mg "list" = none) (hbase : attributeBase e "values" X.env (eval e X.env) = eval e X.env := by rfl) (hline : (apos.endLine == cpos.line) = true := by rfl)
    (hs : starEach [.Call (.Attribute e "values" apos) [] [] cpos] X.env = (false, eval (.Call (.Attribute e "values" apos) [] [] cpos) X.env) :: starEach [] X.env := by rfl) :
    PE X (.Call (.Name "list" p) [.Call (.Attribute e "values" apos) [] [] cpos] [] pos) (tListVals te) := by
  refine ⟨fun pins s σ H Q I hq => ?_⟩; skip
  refine wpAny_Call_Name_kw (ld_blt I hg hm (by decide +kernel : bootBuiltins "list" = some (.type "list")) ?_)
  refine PyProof.Rows.callWith_type1 ?_ hs rfl; skip
  rw [hs]
  show wpAny _ _ (spliced ((false, eval (.Call (.Attribute e "values" apos) [] [] cpos) X.env) :: backTo pos (starEach [] X.env))) _ _ s
  refine Calls.spliced_cons ?_
  refine wpAny_Call_method (T := "dict") (id := "dict.values") hbase rfl hline F.plainAttrs_dict F.slot_dict_values F.type_dict_values (thn (he.run pins s σ H _ I hq) fun u s1 ⟨x, H1, I1, rx, d, kvs, ex, hd, q⟩ => ?_)
  subst ex
  obtain rfl : u = Value.ref d := rx; skip
  obtain ⟨hz, hs0, vs, kv, hdo⟩ := I1.hok d _ hd; skip
  obtain ⟨ep, hat⟩ := hdo.dictAt; skip
  have lk : kvs.length = vs.length := Paired.length kv; skip
  have I2 : Inv X pins σ H1 { s1 with heap := s1.heap.push { cls := .type "dict_values", data := .fields #[.ref d] } } := I1.kept (t' := s1.toks) fun b ob q => Heap.get?_push_of_some _ q; skip
  refine ⟨hdo.typeIs, hdo.mapOf.noDict, ?_⟩; skip
  show wpAny _ _ (callWith cpos (.builtin "dict.values") [.ref d] [] []) _ X.xe s1; skip
  refine method_meetsIn F.slot_dict_values F.entry_dict_values rfl (PySem.evalArgs_none ⟨rfl, hdo.typeIs, F.args_dict_values_1 _, _, meets_dict_values (mixKind X.prog X.w) d hs0, ⟨vs, hdo⟩, ?_⟩)
  refine Calls.spliced_nil ?_
  refine PySem.W.kdl_call (PySem.W.kdl_values (knd := mixKind X.prog X.w) (kvs := vs) (ep := ep)) (I1.ok.hd hc) ⟨⟨_, Heap.get?_push_size _ rfl, rfl, rfl⟩, hat.push _⟩ (by omega) fun h' tk acc' c' hk hS hacc => ?_
  refine ⟨.ref _, _, I2.laid (t' := tk) hk (Nat.le_refl _) (show ObjOk X.prog X.w _ _ _ (.lst (kvs.map (·.2))) from ⟨?_, acc'.toList, c', ?_, ?_⟩), rfl, q _ (I2.hok.fresh (Nat.le_refl _))⟩
  · rw [List.length_map]; exact hz
  · have el : acc'.toList.length = acc'.size := by simp; skip
    refine vals_of_at (by rw [List.length_map, el, hacc.1, lk]) fun j x w h1 h2 => ?_
    obtain ⟨k, hky⟩ := hacc.2 j w (by rw [← Array.getElem?_toList]; exact h2)
    obtain ⟨y, h3, h4⟩ := KV.at' kv hky
    rw [List.getElem?_map, h3] at h1
    cases h1
    exact h4
  · rw [Array.toArray_toList]; exact hS; skip
end Pl

namespace Pl
open L2 PySem PySem.Spec PyProof.Rows
/-! ### the text by places -/
def top (i : Nat) : Stmt := PySem.Challenge.pw_plainstore_k24_whole_least_moves_of_many.main.body.getD i (.Pass ⟨0, 0, 0, 0⟩)
abbrev sNumber : Stmt := top 5
abbrev sIsNumber : Stmt := top 5
abbrev sIsWithin : Stmt := top 6
abbrev sLeast : Stmt := top 11
abbrev sMost : Stmt := top 12
abbrev sCkPages : Stmt := top 14
abbrev sCkPage : Stmt := top 13
abbrev sCkBegins : Stmt := top 15
abbrev sCkListed : Stmt := top 16
abbrev sLM : Stmt := top 17
abbrev sPool : Stmt := top 19
abbrev sTake : Stmt := top 20
abbrev sTried : Stmt := top 21
abbrev sSpread : Stmt := top 22
abbrev sLLeast : Stmt := top 23
abbrev sLMost : Stmt := top 24
abbrev sRefused : Stmt := top 25
abbrev sLaw : Stmt := top 26
/-- what the top has left of constants and built-ins -/
structure Cst (mg : Str → Option Value) : Prop where
  isi : mg "isinstance" = none
  len : mg "len" = none
  tint : mg "int" = none
  tbool : mg "bool" = none
  tlst : mg "list" = none
  ttup : mg "tuple" = none
  rng : mg "range" = none
  max_ : mg "max" = none
  min_ : mg "min" = none
  rpr : mg "repr" = none
  enum : mg "enumerate" = none
  pages : ∃ t, mg "MOST_PAGES" = some (.int 6 t)
  walks : ∃ t, mg "MOST_WALKS" = some (.int 5 t)
  places : ∃ t, mg "MOST_PLACES" = some (.int 20 t)
  srt : mg "sorted" = none
  all_ : mg "all" = none
/-- a def of the text as its callers see it -/
structure Df (P : Program) (w : World) (K : PySem.W.Frag) (mg : Str → Option Value) (base : Heap) (k : Nat) (x : Str) (ps : List Str) (sp : Sp) : Prop where
  ex : ∃ (f : Addr) (fd : FuncData), FnOk P w K mg base CX0 k f fd ps sp ∧ mg x = some (.ref f) ∧ PySem.W.keepIn K (.ref f) = true ∧ Binds K fd ps []
/-- one that may raise -/
structure DfX (P : Program) (w : World) (K : PySem.W.Frag) (mg : Str → Option Value) (base : Heap) (k : Nat) (x : Str) (ps : List Str) (sp : Sp) : Prop where
  ex : ∃ (f : Addr) (fd : FuncData), FnOk P w K mg base (L2.CX P w) k f fd ps sp ∧ mg x = some (.ref f) ∧ PySem.W.keepIn K (.ref f) = true ∧ Binds K fd ps []
/-- a flat value and what it is -/
inductive Fl : V → PyData → Prop
  | non : Fl .non .none
  | bl (b : Bool) : Fl (.bl b) (.bool b)
  | int (i : Int) : Fl (.int i) (.int i)
  | str (x : Str) : Fl (.str x) (.str x)
theorem Fl.dv {v : V} {d : PyData} {m : Bool} {z : Addr} {H : Hp} {k : Bool} (h : Fl v d) : Dv m z H k v d := by
  cases h with
  | non => exact .non
  | bl b => exact .bl b
  | int i => exact .int i
  | str x => exact .str x
def kindOf : PyData → String
  | .none => "NoneType"
  | .bool _ => "bool"
  | .int _ => "int"
  | _ => "str"
theorem Fl.ty {K : PySem.W.Frag} {H : Hp} {v : V} {d : PyData} (h : Fl v d) : TyX K H v (.type (kindOf d)) := by
  cases h with
  | non => exact .base .non
  | bl b => exact .base (.bl b)
  | int i => exact .base (.int i)
  | str x => exact .base (.str x)
def isIB : PyData → Bool
  | .int _ => true
  | .bool _ => true
  | _ => false
theorem kit_int {K : PySem.W.Frag} {v : V} {d : PyData} (h : Fl v d) : PySem.W.kitOne K (.type (kindOf d)) (.type "int") = some (isIB d) := by
  cases h with
  | non => exact kit_ty (show kitB "NoneType" "int" = some false from by decide +kernel)
  | bl b => exact kit_ty (show kitB "bool" "int" = some true from by decide +kernel)
  | int i => exact kit_ty (show kitB "int" "int" = some true from by decide +kernel)
  | str x => exact kit_ty (show kitB "str" "int" = some false from by decide +kernel)
def isB : PyData → Bool
  | .bool _ => true
  | _ => false
theorem kit_bool {K : PySem.W.Frag} {v : V} {d : PyData} (h : Fl v d) : PySem.W.kitOne K (.type (kindOf d)) (.type "bool") = some (isB d) := by
  cases h with
  | non => exact kit_ty (show kitB "NoneType" "bool" = some false from by decide +kernel)
  | bl b => exact kit_ty (show kitB "bool" "bool" = some true from by decide +kernel)
  | int i => exact kit_ty (show kitB "int" "bool" = some false from by decide +kernel)
  | str x => exact kit_ty (show kitB "str" "bool" = some false from by decide +kernel)
def isNum : PyData → Bool
  | .int _ => true
  | _ => false
def within (d : PyData) (lo hi : Int) : Bool := match d with
  | .int i => decide (lo ≤ i) && decide (i ≤ hi)
  | _ => false
theorem within_no {d : PyData} {lo hi : Int} (h : isNum d = false) : within d lo hi = false := by
  cases d <;> first | rfl | cases h
theorem within_inv {v : V} {d : PyData} {lo hi : Int} (f : Fl v d) (h : within d lo hi = true) : ∃ i, v = .int i ∧ d = .int i ∧ lo ≤ i ∧ i ≤ hi := by
  cases f with
  | int i =>
    have h' : (decide (lo ≤ i) && decide (i ≤ hi)) = true := h
    rw [Bool.and_eq_true, decide_eq_true_eq, decide_eq_true_eq] at h'
    exact ⟨i, rfl, rfl, h'.1, h'.2⟩
  | non => cases h
  | bl b => cases h
  | str x => cases h
def spN : Sp := fun vs H Q _ => ∃ (v : V) (d : PyData), vs = [v] ∧ Fl v d ∧ Q (.bl (isNum d)) H
def spW : Sp := fun vs H Q _ => ∃ (v : V) (d : PyData) (lo hi : Int), vs = [v, .int lo, .int hi] ∧ Fl v d ∧ Q (.bl (within d lo hi)) H
section
variable {P : Program} {K : PySem.W.Frag} {w : World} {base : Heap} {mg : Str → Option Value}
theorem scIsNumber : FnScope ["value"] ["value"] (defScope sIsNumber) := ⟨rfl, rfl, rfl, by decide +kernel, rfl, by decide +kernel, by decide +kernel⟩
theorem ok_number {f : Addr} {fd : FuncData} (F : Fun K "is_number" "is_number" sIsNumber f fd) (T : Cst mg) : FnOk P w K mg base CX0 1 f fd ["value"] spN := by
  refine F.ok scIsNumber (fun vs H Q E h => ?_) (fun cdv A outer s H vs Q E hr h => ?_)
  · obtain ⟨v, d, rfl, _⟩ := h
    rfl
  · obtain ⟨v, d, rfl, hd, q⟩ := h
    refine ⟨_, pss_one (ps_ret (pe_and (pe_callB call_isi (by rfl) T.isi (by decide +kernel) (pa_cons (pv 0) (pa_cons (pe_bltn (v := .ty "int") (by rfl) T.tint (by decide +kernel) rfl) pa_nil)))
      (pe_one (pe_not (pe_callB call_isi (by rfl) T.isi (by decide +kernel) (pa_cons (pv 0) (pa_cons (pe_bltn (v := .ty "bool") (by rfl) T.tbool (by decide +kernel) rfl) pa_nil))))))), ?_⟩
    refine ⟨_, rfl, v, _, _, _, _, rfl, .ty _, hd.ty, kit_int hd, _, rfl, ?_⟩
    refine ite2 (fun e => ?_) fun e => ?_
    · refine ⟨_, rfl, v, _, _, _, _, rfl, .ty _, hd.ty, kit_bool hd, _, rfl, ?_⟩
      cases hd <;> first | exact q | cases e
    · cases hd <;> first | exact q | exact absurd rfl e
theorem scIsWithin : FnScope ["value", "least", "most"] ["value", "least", "most"] (defScope sIsWithin) := ⟨rfl, rfl, rfl, by decide +kernel, rfl, by decide +kernel, by decide +kernel⟩
theorem ok_within {f : Addr} {fd : FuncData} (F : Fun K "is_within" "is_within" sIsWithin f fd) (D : Df P w K mg base 1 "is_number" ["value"] spN) : FnOk P w K mg base CX0 2 f fd ["value", "least", "most"] spW := by
  obtain ⟨fN, fdN, GN, mN, kN, bN⟩ := D.ex
  refine F.ok scIsWithin (fun vs H Q E h => ?_) (fun cdv A outer s H vs Q E hr h => ?_)
  · obtain ⟨v, d, lo, hi, rfl, _⟩ := h
    rfl
  · obtain ⟨v, d, lo, hi, rfl, hd, q⟩ := h
    refine ⟨_, pss_one (ps_ret (pe_and (pe_call GN hr (by rfl) mN kN bN .nil pass0 (pa_cons (pv 0) pa_nil)) (pe_one (pe_chain op_le op_le (pv 1) (pv 0) (pv 2))))), ?_⟩
    refine ⟨v, rfl, v, d, rfl, hd, ⟨_, rfl, ?_⟩⟩
    refine ite2 (fun e => ?_) fun e => ?_
    · cases hd with
      | int i =>
        refine ⟨_, rfl, _, rfl, _, _, rfl, rfl, _, rfl, ?_⟩; skip
        have q2 : Q (.bl (decide (lo ≤ i) && decide (i ≤ hi))) H := q
        refine ite2 (fun e => ?_) fun e => ?_
        · refine ⟨_, rfl, _, _, rfl, rfl, ?_⟩
          rw [show decide (lo ≤ i) = true from e, Bool.true_and] at q2
          exact q2
        · rw [show decide (lo ≤ i) = false from Bool.eq_false_iff.mpr e, Bool.false_and] at q2
          exact q2
      | non => cases e
      | bl b => cases e
      | str x => cases e
    · rw [within_no (Bool.eq_false_iff.mpr e)] at q
      exact q
end
/-- what the written part says of an error's class: C, called x, made by the def at fI -/
structure ErrT (K : PySem.W.Frag) (mg : Str → Option Value) (x : Str) (C fI : Addr) : Prop where
  ox : OexC K C
  gC : mg x = some (.ref C)
  iC : PySem.W.findIn K (.ref C) "__init__" = some (some (.ref fI))
  tI : PySem.W.typeIn K (.ref fI) = some (.type "function")
  no : PySem.W.findIn K (.ref C) "told" = some none
def spInit (K : PySem.W.Frag) : Sp := fun vs H Q _ => ∃ (a C : Addr) (y : V), vs = [.ref a, y] ∧ OexC K C ∧ PySem.W.findIn K (.ref C) "told" = some none ∧ H a = some (exo a C none) ∧ ∀ dx, H dx = none → dx ≠ a → Q .non (upd (upd H dx (exd dx [("told", y)])) a (exo a C (some dx)))
/-- how the class is made, as the raising defs see it -/
structure Mak (P : Program) (w : World) (K : PySem.W.Frag) (mg : Str → Option Value) (base : Heap) (x : Str) (C : Addr) : Prop where
  ex : ∃ (fI : Addr) (fd : FuncData), ErrT K mg x C fI ∧ FnOk P w K mg base CX0 1 fI fd ["self", "told"] (spInit K) ∧ Binds K fd ["self", "told"] []
/-- C(v) leaves -/
def Rais (C : Addr) (v : V) (H : Hp) (E : XK) : Prop := ∀ (d : Addr) (H' : Hp), Same H H' → H' d = some (.xd [("told", v)]) → E (.ref C) (some d) H'
theorem Rais.same {C : Addr} {v : V} {H G : Hp} {E : XK} (r : Rais C v H E) (s : Same H G) : Rais C v G E := fun d H' s' h => r d H' (s.trans s') h
/-- raise C(e), where e reads as v -/
theorem raised {K : PySem.W.Frag} {C : Addr} {v : V} {σ : L2.St} {H : Hp} {E : XK} {ta : TA} (ox : OexC K C) (no : PySem.W.findIn K (.ref C) "told" = some none) (h : ∀ k : List V → Hp → Prop, k [v] H → ta σ H k) (q : Rais C v H E) : tMkO C (spInit K) [] ta σ H E := by
  refine h _ ⟨by simp, fun a ha => ?_⟩
  refine ⟨a, C, v, rfl, ox, no, upd_same, fun dx hdx ne => ⟨rfl, dx, [(("told" : Str), v)], upd_same, ?_, ?_, ?_⟩⟩
  · rw [upd_ne ne, upd_same]
  · rw [upd_ne ne] at hdx
    exact hdx
  · have hdG : H dx = none := by
      rw [upd_ne ne] at hdx
      exact hdx
    refine q dx _ (fun b o hb => ?_) upd_same
    have n1 : b ≠ dx := ne_of_none hb hdG
    have n2 : b ≠ a := ne_of_none hb ha
    rw [upd_ne n1, del_ne n2, upd_ne n2, upd_ne n1, upd_ne n2]
    exact hb
theorem raised_v {K : PySem.W.Frag} {C : Addr} {v : V} {i : Nat} {σ : L2.St} {H : Hp} {E : XK} (ox : OexC K C) (no : PySem.W.findIn K (.ref C) "told" = some none) (hv : σ[i]? = some (some v)) (q : Rais C v H E) : tMkO C (spInit K) [] (tCons (tVar i) tNil) σ H E :=
  raised ox no (fun k hk => ⟨v, hv, hk⟩) q
theorem raised_c {K : PySem.W.Frag} {C : Addr} {v : V} {σ : L2.St} {H : Hp} {E : XK} (ox : OexC K C) (no : PySem.W.findIn K (.ref C) "told" = some none) (q : Rais C v H E) : tMkO C (spInit K) [] (tCons (tC v) tNil) σ H E :=
  raised ox no (fun k hk => hk) q
section
variable {P : Program} {K : PySem.W.Frag} {w : World} {base : Heap} {mg : Str → Option Value} {C C2 C3 : Addr}
theorem scInit2 : FnScope ["self", "told"] ["self", "told"] (defScope (inClass (top 2) 0)) := ⟨rfl, rfl, rfl, by decide +kernel, rfl, by decide +kernel, by decide +kernel⟩
theorem ok_init2 {f : Addr} {fd : FuncData} (F : Fun K "__init__" "NoCount.__init__" (inClass (top 2) 0) f fd) : FnOk P w K mg base CX0 1 f fd ["self", "told"] (spInit K) := by
  refine F.ok scInit2 (fun vs H Q E h => ?_) (fun cdv A outer s H vs Q E hr h => ?_)
  · obtain ⟨a, C, y, rfl, _⟩ := h
    rfl
  · obtain ⟨a, C, y, rfl, T, no, ha, q⟩ := h
    exact ⟨_, pss_one (ps_ost (pv 0) (pv 1)), y, rfl, .ref a, rfl, a, C, rfl, T, no, .inl ⟨ha, q⟩⟩
theorem scInit3 : FnScope ["self", "told"] ["self", "told"] (defScope (inClass (top 3) 0)) := ⟨rfl, rfl, rfl, by decide +kernel, rfl, by decide +kernel, by decide +kernel⟩
theorem ok_init3 {f : Addr} {fd : FuncData} (F : Fun K "__init__" "NoPage.__init__" (inClass (top 3) 0) f fd) : FnOk P w K mg base CX0 1 f fd ["self", "told"] (spInit K) := by
  refine F.ok scInit3 (fun vs H Q E h => ?_) (fun cdv A outer s H vs Q E hr h => ?_)
  · obtain ⟨a, C, y, rfl, _⟩ := h
    rfl
  · obtain ⟨a, C, y, rfl, T, no, ha, q⟩ := h
    exact ⟨_, pss_one (ps_ost (pv 0) (pv 1)), y, rfl, .ref a, rfl, a, C, rfl, T, no, .inl ⟨ha, q⟩⟩
/-- v is checked -/
def Ck (C : Addr) (v : V) (d : PyData) (lo hi : Int) (H : Hp) (E : XK) (G : Prop) : Prop := Fl v d ∧ (within d lo hi = true → G) ∧ (within d lo hi = false → Rais C v H E)
theorem within_yes {i lo hi : Int} (a : lo ≤ i) (b : i ≤ hi) : within (.int i) lo hi = true := by
  show (decide (lo ≤ i) && decide (i ≤ hi)) = true
  rw [decide_eq_true a, decide_eq_true b]
  rfl
theorem ck_int {i lo hi : Int} {H : Hp} {E : XK} {G : Prop} (a : lo ≤ i) (b : i ≤ hi) (g : G) : Ck C (.int i) (.int i) lo hi H E G := ⟨.int i, fun _ => g, fun e => by
  rw [within_yes a b] at e
  cases e⟩
theorem ck_odd {v : V} {e : PyData} {lo hi : Int} {H : Hp} {E : XK} {G : Prop} (f : Fl v e) (n : within e lo hi = false) (r : Rais C v H E) : Ck C v e lo hi H E G := ⟨f, (fun (y : within e lo hi = true) => by
  rw [n] at y
  cases y), fun _ => r⟩
def spPages (C : Addr) : Sp := fun vs H Q E => ∃ (v : V) (d : PyData), vs = [v] ∧ Ck C v d 1 6 H E (Q .non H)
def spPage (C : Addr) : Sp := fun vs H Q E => ∃ (n : Int) (v : V) (d : PyData), vs = [.int n, v] ∧ Ck C v d 0 (n - 1) H E (Q .non H)
theorem scCkPages : FnScope ["pages"] ["pages"] (defScope sCkPages) := ⟨rfl, rfl, rfl, by decide +kernel, rfl, by decide +kernel, by decide +kernel⟩
theorem ok_ckpages {f : Addr} {fd : FuncData} (F : Fun K "_check_pages" "_check_pages" sCkPages f fd) (T : Cst mg) (M : Mak P w K mg base "NoCount" C) (D1 : Df P w K mg base 2 "is_within" ["value", "least", "most"] spW) : FnOk P w K mg base (L2.CX P w) 3 f fd ["pages"] (spPages C) := by
  obtain ⟨e1, fd1, G1, m1, k1, b1⟩ := D1.ex
  obtain ⟨fI, fdI, TE, GI, bI⟩ := M.ex
  obtain ⟨t2, hp⟩ := T.pages
  refine F.okX scCkPages (fun vs H Q E h => ?_) (fun cdv A outer s H vs Q E hr h => ?_)
  · obtain ⟨v, d, rfl, _⟩ := h
    rfl
  · obtain ⟨v, d, rfl, hd, q1, q2⟩ := h
    refine ⟨_, pss_one (ps_if (pt_not (pt_val (pe_call G1 hr (by rfl) m1 k1 b1 .nil pass0 (pa_cons (pv 0) (pa_cons pe_int (pa_cons (pe_glob (v := .int 6) (by rfl) hp ⟨_, rfl⟩) pa_nil))))))
      (pss_one (ps_raise rfl (takes_of rfl rfl rfl rfl) (pmk_oex TE.ox TE.iC TE.tI GI (hr.mono (by decide)) bI .nil pass0 (by rfl) TE.gC (pa_cons (pv 0) pa_nil)))) pss_nil), ?_⟩
    refine ⟨v, rfl, v, d, 1, 6, rfl, hd, ⟨_, rfl, ?_⟩⟩
    refine ite2 (fun e => raised_v TE.ox TE.no rfl (q2 (by simpa using e))) fun e => q1 (by simpa using e)
theorem scCkPage : FnScope ["pages", "page"] ["pages", "page"] (defScope sCkPage) := ⟨rfl, rfl, rfl, by decide +kernel, rfl, by decide +kernel, by decide +kernel⟩
theorem ok_ckpage {f : Addr} {fd : FuncData} (F : Fun K "check_page" "check_page" sCkPage f fd) (T : Cst mg) (M : Mak P w K mg base "NoPage" C) (D1 : Df P w K mg base 2 "is_within" ["value", "least", "most"] spW) : FnOk P w K mg base (L2.CX P w) 3 f fd ["pages", "page"] (spPage C) := by
  obtain ⟨e1, fd1, G1, m1, k1, b1⟩ := D1.ex
  obtain ⟨fI, fdI, TE, GI, bI⟩ := M.ex
  refine F.okX scCkPage (fun vs H Q E h => ?_) (fun cdv A outer s H vs Q E hr h => ?_)
  · obtain ⟨n, v, d, rfl, _⟩ := h
    rfl
  · obtain ⟨n, v, d, rfl, hd, q1, q2⟩ := h
    refine ⟨_, pss_one (ps_if (pt_not (pt_val (pe_call G1 hr (by rfl) m1 k1 b1 .nil pass0 (pa_cons (pv 1) (pa_cons pe_int (pa_cons (pe_op op_sub (pv 0) pe_int) pa_nil))))))
      (pss_one (ps_raise rfl (takes_of rfl rfl rfl rfl) (pmk_oex TE.ox TE.iC TE.tI GI (hr.mono (by decide)) bI .nil pass0 (by rfl) TE.gC (pa_cons (pv 1) pa_nil)))) pss_nil), ?_⟩
    refine ⟨v, rfl, _, rfl, _, _, rfl, rfl, v, d, 0, n - 1, rfl, hd, ⟨_, rfl, ?_⟩⟩
    refine ite2 (fun e => raised_v TE.ox TE.no rfl (q2 (by simpa using e))) fun e => q1 (by simpa using e)
end
end Pl

namespace Pl
open L2 PySem PySem.Spec PyProof.Rows
/-! ### what is reckoned -/
abbrev Cs := List (Option Int)
/-- the least of the costs -/
def minO : Cs → Option Int
  | [] => none
  | none :: cs => minO cs
  | some x :: cs => match minO cs with
    | none => some x
    | some m => some (if m < x then m else x)
def up1 (m : Int) : Option Int → Option Int
  | none => some (m + 1)
  | some x => some (if x > m + 1 then m + 1 else x)
def sprd (cs : Cs) : Cs := match minO cs with
  | none => cs
  | some m => cs.map (up1 m)
def kill (cs : Cs) (i : Nat) : Cs := cs.set i none
def visit (cs : Cs) (first : Bool) (i : Nat) : Cs := kill (if first then cs else sprd cs) i
/-- behind the visits of these pages -/
def runC : Cs → Bool → List Nat → Cs
  | cs, _, [] => cs
  | cs, b, i :: is => runC (visit cs b i) false is
theorem minO_none {cs : Cs} : minO cs = none ↔ ∀ c ∈ cs, c = none := by
  induction cs with
  | nil => simp [minO]
  | cons c cs ih =>
    cases c with
    | none => simpa [minO] using ih
    | some x =>
      constructor
      · intro h
        simp only [minO] at h
        split at h <;> cases h
      · intro h
        exact absurd (h _ List.mem_cons_self) (by simp)
theorem minO_some {cs : Cs} {m : Int} : minO cs = some m ↔ some m ∈ cs ∧ ∀ x, some x ∈ cs → m ≤ x := by
  induction cs generalizing m with
  | nil => simp [minO]
  | cons c cs ih =>
    cases c with
    | none =>
      simp only [minO, List.mem_cons]
      rw [ih]
      constructor
      · rintro ⟨a, b⟩
        exact ⟨.inr a, fun x hx => by rcases hx with hx | hx; cases hx; exact b x hx⟩
      · rintro ⟨a, b⟩
        refine ⟨?_, fun x hx => b x (.inr hx)⟩
        rcases a with a | a
        · cases a
        · exact a
    | some x =>
      simp only [minO]
      cases e : minO cs with
      | none =>
        have hn := minO_none.mp e
        simp only [Option.some.injEq, List.mem_cons]
        constructor
        · rintro rfl
          exact ⟨.inl rfl, fun y hy => by rcases hy with hy | hy; exact (Int.le_of_eq hy.symm); exact absurd (hn _ hy) (by simp)⟩
        · rintro ⟨a, b⟩
          rcases a with a | a
          · exact a.symm
          · exact absurd (hn _ a) (by simp)
      | some k =>
        have hk := ih.mp e
        simp only [Option.some.injEq, List.mem_cons]
        constructor
        · intro h
          split at h
          · subst h
            rename_i hl
            exact ⟨.inr hk.1, fun y hy => by rcases hy with hy | hy; (subst hy; omega); exact hk.2 y hy⟩
          · subst h
            rename_i hl
            exact ⟨.inl rfl, fun y hy => by rcases hy with hy | hy; (subst hy; omega); (have := hk.2 y hy; omega)⟩
        · rintro ⟨a, b⟩
          have h1 := b x (.inl rfl)
          have h2 := b k (.inr hk.1)
          split
          · rename_i hl
            rcases a with a | a
            · subst a
              omega
            · have := hk.2 m a
              omega
          · rename_i hl
            rcases a with a | a
            · omega
            · have := hk.2 m a
              omega
theorem sprd_len {cs : Cs} : (sprd cs).length = cs.length := by
  unfold sprd
  split
  · rfl
  · exact List.length_map _
theorem visit_len {cs : Cs} {b : Bool} {i : Nat} : (visit cs b i).length = cs.length := by
  unfold visit kill
  rw [List.length_set]
  split
  · rfl
  · exact sprd_len
theorem dead_visit {cs : Cs} {b : Bool} {i : Nat} (h : minO cs = none) : minO (visit cs b i) = none := by
  have h2 : (if b = true then cs else sprd cs) = cs := by
    split
    · rfl
    · unfold sprd
      rw [h]
  unfold visit kill
  rw [h2]
  rw [minO_none] at h ⊢
  intro c hc
  rcases List.mem_or_eq_of_mem_set hc with e | e
  · exact h _ e
  · exact e
theorem dead_run {cs : Cs} {b : Bool} : ∀ (is : List Nat), minO cs = none → minO (runC cs b is) = none := fun is => by
  induction is generalizing cs b with
  | nil => exact fun h => h
  | cons i is ih => exact fun h => ih (dead_visit h)
theorem runC_snoc {cs : Cs} {b : Bool} {is : List Nat} {i : Nat} : runC cs b (is ++ [i]) = visit (runC cs b is) (b && is.isEmpty) i := by
  induction is generalizing cs b with
  | nil => simp [runC]
  | cons k is ih => simp [runC, ih]
/-! ### costs stay small -/
def Lim (t : Int) (cs : Cs) : Prop := ∀ m, minO cs = some m → 0 ≤ m ∧ ((2 * m ≤ t) ∨ (2 * m ≤ t + 1 ∧ ∃ i j : Nat, i ≠ j ∧ cs[i]? = some (some m) ∧ cs[j]? = some (some m)))
theorem nonneg_sprd {cs : Cs} (h : ∀ x, some x ∈ cs → 0 ≤ x) : ∀ x, some x ∈ sprd cs → 0 ≤ x := by
  intro x hx
  unfold sprd at hx
  cases e : minO cs with
  | none =>
    rw [e] at hx
    exact h x hx
  | some m =>
    rw [e] at hx
    obtain ⟨c, hc, hy⟩ := List.mem_map.mp hx
    have hm := h m (minO_some.mp e).1
    cases c with
    | none =>
      simp only [up1, Option.some.injEq] at hy
      omega
    | some y =>
      have := h y hc
      simp only [up1, Option.some.injEq] at hy
      split at hy <;> omega
theorem nonneg_visit {cs : Cs} {b : Bool} {i : Nat} (h : ∀ x, some x ∈ cs → 0 ≤ x) : ∀ x, some x ∈ visit cs b i → 0 ≤ x := by
  intro x hx
  unfold visit kill at hx
  rcases List.mem_or_eq_of_mem_set hx with e | e
  · split at e
    · exact h x e
    · exact nonneg_sprd h x e
  · cases e
theorem nonneg_run {cs : Cs} {b : Bool} : ∀ (is : List Nat), (∀ x, some x ∈ cs → 0 ≤ x) → ∀ x, some x ∈ runC cs b is → 0 ≤ x := fun is => by
  induction is generalizing cs b with
  | nil => exact fun h => h
  | cons i is ih => exact fun h => ih (nonneg_visit h)
/-! ### sums of parts -/
def Rch : List Int → Int → Nat → Prop
  | [], s, k => s = 0 ∧ k = 0
  | x :: l, s, k => Rch l s k ∨ ∃ j, k = j + 1 ∧ Rch l (s - x) j
theorem Rch.perm {l r : List Int} (p : l.Perm r) : ∀ {s : Int} {k : Nat}, Rch l s k → Rch r s k := by
  induction p with
  | nil => exact fun h => h
  | cons x _ ih =>
    intro s k h
    rcases h with h | ⟨j, e, h⟩
    · exact .inl (ih h)
    · exact .inr ⟨j, e, ih h⟩
  | swap x y l =>
    intro s k h
    rcases h with (h | ⟨j, e, h⟩) | ⟨j, e, h | ⟨j2, e2, h⟩⟩
    · exact .inl (.inl h)
    · exact .inr ⟨j, e, .inl h⟩
    · exact .inl (.inr ⟨j, e, h⟩)
    · refine .inr ⟨j, e, .inr ⟨j2, e2, ?_⟩⟩
      rw [show s - x - y = s - y - x by omega]
      exact h
  | trans _ _ ih1 ih2 => exact fun h => ih2 (ih1 h)
theorem Rch.pos {l : List Int} (h0 : ∀ x ∈ l, 0 ≤ x) : ∀ {s : Int} {k : Nat}, Rch l s k → 0 ≤ s := by
  induction l with
  | nil => exact fun h => (Int.le_of_eq h.1.symm)
  | cons x l ih =>
    intro s k h
    have hx := h0 x List.mem_cons_self
    have ih := @ih fun y hy => h0 y (List.mem_cons_of_mem _ hy)
    rcases h with h | ⟨j, e, h⟩
    · exact ih h
    · have := ih h
      omega
theorem Rch.drop {l : List Int} : ∀ {s : Int} {k : Nat}, Rch l s (k + 1) → ∃ y ∈ l, Rch l (s - y) k := by
  induction l with
  | nil => exact fun h => absurd h.2 (by omega)
  | cons x l ih =>
    intro s k h
    rcases h with h | ⟨j, e, h⟩
    · obtain ⟨y, hy, r⟩ := ih h
      exact ⟨y, List.mem_cons_of_mem _ hy, .inl r⟩
    · obtain rfl : k = j := by omega
      exact ⟨x, List.mem_cons_self, .inl h⟩
theorem Rch.low {l : List Int} {x : Int} (h0 : ∀ y ∈ l, 0 ≤ y) (hx : ∀ y ∈ l, x ≤ y) {s : Int} {k : Nat} (h : Rch l s (k + 1)) : x ≤ s := by
  obtain ⟨y, hy, r⟩ := h.drop
  have := r.pos h0
  have := hx y hy
  omega
/-- taken one by one, as long as they fit -/
def greedy : List Int → Int → Nat
  | [], _ => 0
  | x :: l, c => if x ≤ c then greedy l (c - x) + 1 else greedy l c
theorem greedy_most {l : List Int} (hs : l.Pairwise (· ≤ ·)) (h0 : ∀ x ∈ l, 0 ≤ x) : ∀ {s c : Int} {k : Nat}, Rch l s k → s ≤ c → k ≤ greedy l c := by
  induction l with
  | nil => exact fun h _ => by rw [h.2]; exact Nat.zero_le _
  | cons x l ih =>
    intro s c k h hc
    have hs2 := List.pairwise_cons.mp hs
    have h02 : ∀ y ∈ l, 0 ≤ y := fun y hy => h0 y (List.mem_cons_of_mem _ hy)
    have ih := @ih hs2.2 h02
    cases k with
    | zero => exact Nat.zero_le _
    | succ k =>
      have low : x ≤ s := by
        rcases h with h | ⟨j, e, h⟩
        · exact h.low h02 hs2.1
        · have := h.pos h02
          omega
      rw [greedy, if_pos (by omega)]
      rcases h with h | ⟨j, e, h⟩
      · obtain ⟨y, hy, r⟩ := h.drop
        have := hs2.1 y hy
        exact Nat.succ_le_succ (ih r (by omega))
      · obtain rfl : k = j := by omega
        exact Nat.succ_le_succ (ih h (by omega))
theorem greedy_is {l : List Int} : ∀ {c : Int}, 0 ≤ c → ∃ s, s ≤ c ∧ Rch l s (greedy l c) := by
  induction l with
  | nil => exact fun {c} h => ⟨0, h, rfl, rfl⟩
  | cons x l ih =>
    intro c h
    by_cases hx : x ≤ c
    · obtain ⟨s, h1, h2⟩ := @ih (c - x) (by omega)
      refine ⟨s + x, by omega, ?_⟩
      rw [greedy, if_pos hx]
      refine .inr ⟨_, rfl, ?_⟩
      rw [show s + x - x = s by omega]
      exact h2
    · obtain ⟨s, h1, h2⟩ := @ih c h
      refine ⟨s, h1, ?_⟩
      rw [greedy, if_neg hx]
      exact .inl h2
theorem greedy_all {l : List Int} : ∀ {c : Int}, (∀ x ∈ l, 0 ≤ x) → l.sum ≤ c → greedy l c = l.length := by
  induction l with
  | nil => exact fun _ _ => rfl
  | cons x l ih =>
    intro c h0 hc
    rw [List.sum_cons] at hc
    have h02 : ∀ y ∈ l, 0 ≤ y := fun y hy => h0 y (List.mem_cons_of_mem _ hy)
    have hp : 0 ≤ l.sum := by
      clear ih hc h0
      induction l with
      | nil => exact Int.le_refl _
      | cons y l ih =>
        rw [List.sum_cons]
        have := ih fun z hz => h02 z (List.mem_cons_of_mem _ hz)
        have := h02 y List.mem_cons_self
        omega
    rw [greedy, if_pos (by omega), ih h02 (by omega)]
    rfl
/-- the sums and sizes of all parts, as they are found -/
def parts : List (Int × Int) → List Int → List (Int × Int)
  | f, [] => f
  | f, x :: l => parts (f ++ f.map fun p => (p.1 + x, p.2 + 1)) l
theorem parts_mem {l : List Int} : ∀ {f : List (Int × Int)} {q : Int × Int}, q ∈ parts f l ↔ ∃ p ∈ f, ∃ k : Nat, q.2 = p.2 + k ∧ Rch l (q.1 - p.1) k := by
  induction l with
  | nil =>
    intro f q
    constructor
    · exact fun h => ⟨q, h, 0, by omega, by omega, rfl⟩
    · rintro ⟨p, hp, k, e1, e2, e3⟩
      have : q = p := Prod.ext (by omega) (by omega)
      exact this ▸ hp
  | cons x l ih =>
    intro f q
    rw [parts, ih]
    constructor
    · rintro ⟨p, hp, k, e, r⟩
      rcases List.mem_append.mp hp with hp | hp; skip
      · exact ⟨p, hp, k, e, .inl r⟩
      · obtain ⟨p0, hp0, rfl⟩ := List.mem_map.mp hp
        refine ⟨p0, hp0, k + 1, by simp only at e; omega, .inr ⟨k, rfl, ?_⟩⟩
        rw [show q.1 - p0.1 - x = q.1 - (p0.1 + x) by omega]
        exact r
    · rintro ⟨p, hp, k, e, r⟩
      rcases r with r | ⟨j, e2, r⟩
      · exact ⟨p, List.mem_append_left _ hp, k, e, r⟩
      · refine ⟨(p.1 + x, p.2 + 1), List.mem_append_right _ (List.mem_map.mpr ⟨p, hp, rfl⟩), j, by simp only; omega, ?_⟩
        rw [show q.1 - (p.1 + x) = q.1 - p.1 - x by omega]
        exact r
theorem parts_most {ns ms : List Int} {c B : Int} (p : ms.Perm ns) (hs : ms.Pairwise (· ≤ ·)) (h0 : ∀ x ∈ ns, 0 ≤ x) (c0 : 0 ≤ c) (b1 : ∀ q ∈ parts [(0, 0)] ns, q.1 ≤ c → q.2 ≤ B) (b2 : B = 0 ∨ ∃ q ∈ parts [(0, 0)] ns, q.1 ≤ c ∧ q.2 = B) : B = greedy ms c := by
  have h0m : ∀ x ∈ ms, 0 ≤ x := fun x hx => h0 x (p.mem_iff.mp hx)
  have up : B ≤ greedy ms c := by
    rcases b2 with e | ⟨q, hq, hc, e⟩
    · omega
    · obtain ⟨p0, hp0, k, e1, r⟩ := parts_mem.mp hq
      obtain rfl : p0 = (0, 0) := by simpa using hp0
      simp only at e1 r
      have := greedy_most hs h0m (r.perm p.symm) (c := c) (by omega)
      omega
  obtain ⟨s, h1, h2⟩ := greedy_is (l := ms) c0
  have := b1 (s, (greedy ms c : Int)) (parts_mem.mpr ⟨(0, 0), by simp, greedy ms c, by simp, by simpa using h2.perm p⟩) h1
  simp only at this
  omega
end Pl

namespace Pl
open L2 PySem PySem.Spec PyProof.Rows
/-! ### costs as a dict -/
abbrev KL := List (Key × V)
def dFrom : Nat → Cs → KL
  | _, [] => []
  | i, none :: cs => dFrom (i + 1) cs
  | i, some x :: cs => (Sum.inl (i : Int), .int x) :: dFrom (i + 1) cs
abbrev dOf (cs : Cs) : KL := dFrom 0 cs
def somes : Cs → List Int
  | [] => []
  | none :: cs => somes cs
  | some x :: cs => x :: somes cs
theorem somes_mem {x : Int} : ∀ {cs : Cs}, x ∈ somes cs ↔ some x ∈ cs
  | [] => by simp [somes]
  | none :: cs => by
    rw [somes, somes_mem (cs := cs)]
    simp
  | some y :: cs => by
    rw [somes, List.mem_cons, somes_mem (cs := cs)]
    simp
theorem dFrom_vals : ∀ (cs : Cs) (i : Nat), (dFrom i cs).map (·.2) = (somes cs).map V.int
  | [], _ => rfl
  | none :: cs, i => dFrom_vals cs (i + 1)
  | some x :: cs, i => by
    rw [dFrom, somes, List.map_cons, List.map_cons, dFrom_vals cs (i + 1)]
theorem dFrom_len : ∀ (cs : Cs) (i : Nat), (dFrom i cs).length ≤ cs.length
  | [], _ => Nat.le_refl _
  | none :: cs, i => Nat.le_succ_of_le (dFrom_len cs (i + 1))
  | some x :: cs, i => Nat.succ_le_succ (dFrom_len cs (i + 1))
theorem dFrom_key : ∀ {cs : Cs} {i : Nat} {e : Key × V}, e ∈ dFrom i cs → ∃ j : Nat, i ≤ j ∧ j < i + cs.length ∧ e.1 = Sum.inl (j : Int)
  | [], _, _, h => by cases h
  | none :: cs, i, e, h => by
    obtain ⟨j, h1, h2, h3⟩ := dFrom_key (cs := cs) (i := i + 1) h
    exact ⟨j, by omega, by rw [List.length_cons]; omega, h3⟩
  | some x :: cs, i, e, h => by
    rcases List.mem_cons.mp h with rfl | h; skip
    · exact ⟨i, Nat.le_refl _, by rw [List.length_cons]; omega, rfl⟩
    · obtain ⟨j, h1, h2, h3⟩ := dFrom_key (cs := cs) (i := i + 1) h
      exact ⟨j, by omega, by rw [List.length_cons]; omega, h3⟩
theorem inl_ne {i j : Nat} (h : i ≠ j) : (Sum.inl (i : Int) : Key) ≠ Sum.inl (j : Int) := fun e => h (by injection e with e; omega)
theorem dFrom_val : ∀ (cs : Cs) (i p : Nat), valV (dFrom i cs) (Sum.inl ((i + p : Nat) : Int)) = (cs.getD p none).map V.int
  | [], _, _ => rfl
  | none :: cs, i, 0 => by
    have h : ∀ e ∈ dFrom (i + 1) cs, e.1 ≠ Sum.inl ((i + 0 : Nat) : Int) := fun e he => by
      obtain ⟨j, h1, _, h3⟩ := dFrom_key he
      rw [h3]
      exact inl_ne (by omega)
    show valV (dFrom (i + 1) cs) _ = none
    unfold valV
    rw [List.find?_eq_none.mpr fun e he => by simpa using h e he]
    rfl
  | none :: cs, i, p + 1 => by
    have := dFrom_val cs (i + 1) p
    rw [show i + 1 + p = i + (p + 1) by omega] at this
    simpa [dFrom] using this
  | some x :: cs, i, 0 => by
    rw [dFrom, valV_pos (by rfl)]
    rfl
  | some x :: cs, i, p + 1 => by
    have := dFrom_val cs (i + 1) p
    rw [show i + 1 + p = i + (p + 1) by omega] at this
    rw [dFrom, valV_neg (by exact inl_ne (by omega)), this]
    simp
theorem dFrom_snoc (x : Int) : ∀ (cs : Cs) (i : Nat), dFrom i (cs ++ [some x]) = dFrom i cs ++ [(Sum.inl ((i + cs.length : Nat) : Int), .int x)]
  | [], _ => rfl
  | none :: cs, i => by
    rw [List.cons_append, dFrom, dFrom_snoc x cs (i + 1), dFrom, List.length_cons, show i + 1 + cs.length = i + (cs.length + 1) by omega]
  | some y :: cs, i => by
    rw [List.cons_append, dFrom, dFrom_snoc x cs (i + 1), dFrom, List.length_cons, show i + 1 + cs.length = i + (cs.length + 1) by omega, List.cons_append]
theorem put_new {kvs : KL} {k : Key} {v : V} (h : ∀ e ∈ kvs, e.1 ≠ k) : putK kvs k v = kvs ++ [(k, v)] := by
  unfold putK
  rw [if_neg]
  intro a
  obtain ⟨e, he, h2⟩ := List.any_eq_true.mp a
  exact h e he (of_decide_eq_true h2)
theorem dOf_put {cs : Cs} {x : Int} : putK (dOf cs) (Sum.inl (cs.length : Int)) (.int x) = dOf (cs ++ [some x]) := by
  show _ = dFrom 0 (cs ++ [some x])
  rw [put_new, dFrom_snoc, Nat.zero_add]
  intro e he
  obtain ⟨j, _, h2, h3⟩ := dFrom_key he
  rw [h3]
  exact inl_ne (by omega)
theorem dFrom_kill : ∀ (cs : Cs) (i j : Nat), dFrom i (cs.set j none) = (dFrom i cs).filter fun e => decide (e.1 ≠ Sum.inl ((i + j : Nat) : Int))
  | [], _, _ => rfl
  | none :: cs, i, 0 => by
    have h : ∀ e ∈ dFrom (i + 1) cs, decide (e.1 ≠ Sum.inl ((i + 0 : Nat) : Int)) = true := fun e he => by
      obtain ⟨j, h1, _, h3⟩ := dFrom_key he
      rw [h3]
      exact decide_eq_true (inl_ne (by omega))
    show dFrom (i + 1) cs = _
    exact (List.filter_eq_self.mpr h).symm
  | some x :: cs, i, 0 => by
    have h : ∀ e ∈ dFrom (i + 1) cs, decide (e.1 ≠ Sum.inl ((i + 0 : Nat) : Int)) = true := fun e he => by
      obtain ⟨j, h1, _, h3⟩ := dFrom_key he
      rw [h3]
      exact decide_eq_true (inl_ne (by omega))
    show dFrom (i + 1) cs = _
    rw [dFrom, List.filter_cons_of_neg (by simp), List.filter_eq_self.mpr h]
  | none :: cs, i, j + 1 => by
    have := dFrom_kill cs (i + 1) j
    rw [show i + 1 + j = i + (j + 1) by omega] at this
    exact this
  | some x :: cs, i, j + 1 => by
    have := dFrom_kill cs (i + 1) j
    rw [show i + 1 + j = i + (j + 1) by omega] at this
    rw [List.set_cons_succ, dFrom, this, dFrom, List.filter_cons_of_pos (by exact decide_eq_true (inl_ne (by omega)))]
theorem dFrom_nodup : ∀ (cs : Cs) (i : Nat), ((dFrom i cs).map (·.1)).Nodup
  | [], _ => List.nodup_nil
  | none :: cs, i => dFrom_nodup cs (i + 1)
  | some x :: cs, i => by
    rw [dFrom, List.map_cons]
    refine List.nodup_cons.mpr ⟨fun h => ?_, dFrom_nodup cs (i + 1)⟩
    obtain ⟨e, he, h2⟩ := List.mem_map.mp h
    obtain ⟨j, h3, _, h5⟩ := dFrom_key he
    rw [h5] at h2
    exact inl_ne (by omega) h2
theorem before_ne {kvs : KL} (nd : (kvs.map (·.1)).Nodup) {i : Nat} {k : Key} {v : V} (h : kvs[i]? = some (k, v)) : ∀ e ∈ kvs.take i, e.1 ≠ k := by
  intro e he q
  obtain ⟨lt, hk⟩ := List.getElem?_eq_some_iff.mp h
  have e1 : kvs = kvs.take i ++ (k, v) :: kvs.drop (i + 1) := by
    rw [← hk, List.getElem_cons_drop, List.take_append_drop]
  rw [e1, List.map_append, List.map_cons] at nd
  have := (List.nodup_append.mp nd).2.2 e.1 (List.mem_map.mpr ⟨e, he, rfl⟩) k List.mem_cons_self
  exact this q
theorem val_at {kvs : KL} (nd : (kvs.map (·.1)).Nodup) {i : Nat} {k : Key} {v : V} (h : kvs[i]? = some (k, v)) : valV kvs k = some v := by
  obtain ⟨lt, hk⟩ := List.getElem?_eq_some_iff.mp h
  have e1 : kvs = kvs.take i ++ (k, v) :: kvs.drop (i + 1) := by
    rw [← hk, List.getElem_cons_drop, List.take_append_drop]
  rw [e1]
  unfold valV
  rw [List.find?_append, List.find?_eq_none.mpr fun e he => by simpa using before_ne nd h e he, List.find?_cons_of_pos (by simp)]
  rfl
theorem take_snoc {α : Type} {xs : List α} {i : Nat} {x : α} (h : xs[i]? = some x) : xs.take (i + 1) = xs.take i ++ [x] := by
  rw [List.take_add_one, h]
  rfl
theorem dOf_nil {cs : Cs} : dOf cs = [] ↔ minO cs = none := by
  rw [minO_none]
  constructor
  · intro h c hc
    cases c with
    | none => rfl
    | some x =>
      have h2 := congrArg (List.map (·.2)) h
      rw [dFrom_vals] at h2
      have h3 := List.map_eq_nil_iff.mp h2
      have := somes_mem.mpr hc
      rw [h3] at this
      cases this
  · intro h
    rw [← List.map_eq_nil_iff (f := (·.2)), dFrom_vals, List.map_eq_nil_iff]
    refine List.eq_nil_iff_forall_not_mem.mpr fun x hx => ?_
    have := h _ (somes_mem.mp hx)
    cases this
end Pl

namespace Pl
open L2 PySem PySem.Spec PyProof.Rows
/-- a list or a tuple of these -/
def SqB (K : PySem.W.Frag) (H : Hp) (a : Addr) (xs : List V) : Prop := (∃ ys, H a = some (.lst ys) ∧ ys = xs) ∨ ∃ ys, H a = some (.tup ys) ∧ ys = xs
def nV (ns : List Nat) : List V := ns.map fun (n : Nat) => V.int (n : Int)
/-- the pages of the visits, walk by walk -/
def visits (n : Nat) (bs : List Nat) : List Nat := bs.flatMap fun b => (List.range n).map fun v => (b + v) % n
def cs0 (n s : Nat) : Cs := (List.replicate n none).set s (some 0)
def optI : Option Int → V
  | none => .non
  | some i => .int i
/-- the least moves -/
def least (n : Nat) (bs : List Nat) (s : Nat) : Option Int := minO (runC (cs0 n s) true (visits n bs))
theorem same_up {p : Addr} {H : Hp} {o : HO} (f : H p = none) : Same H (L2.upd H p o) := fun b u e => (upd_ne (ne_of_none e f)).trans e
theorem cs0_dict (n s : Nat) (h : s < n) : dOf (cs0 n s) = [(Sum.inl (s : Int), .int 0)] := by
  have g : ∀ (n s i : Nat), s < n → dFrom i ((List.replicate n none).set s (some 0)) = [(Sum.inl ((i + s : Nat) : Int), .int 0)] := by
    intro n
    induction n with
    | zero => intro s i h; omega
    | succ n ih =>
      intro s i h
      have z : ∀ (n i : Nat), dFrom i (List.replicate n none) = [] := fun n => by
        induction n with
        | zero => intro i; rfl
        | succ n ih => intro i; exact ih (i + 1)
      cases s with
      | zero => simp [List.replicate_succ, dFrom, z]
      | succ s =>
        rw [List.replicate_succ, List.set_cons_succ, dFrom, ih s (i + 1) (by omega)]
        rw [show i + 1 + s = i + (s + 1) by omega]
  have := g n s 0 h
  rw [Nat.zero_add] at this
  exact this
theorem cs0_len (n s : Nat) : (cs0 n s).length = n := by
  unfold cs0
  rw [List.length_set, List.length_replicate]
def spLM (K : PySem.W.Frag) : Sp := fun vs H Q _ => ∃ (a : Addr) (n s : Nat) (bs : List Nat), vs = [.int n, .ref a, .int s] ∧ SqB K H a (nV bs) ∧ bs.length ≤ 5 ∧ n ≤ 6 ∧ s < n ∧ ∀ H', Same H H' → Q (optI (least n bs s)) H'
theorem walk_core {J : It} {n : Nat} {G : Hp → Prop} {Y : Nat → Hp → V → Hp → Prop} (w : L2.Walk J n G Y) {Body : (Hp → Prop) → V → Hp → Prop} {H0 : Hp} {Qd : Hp → Prop} (Pv : Nat → Hp → Prop) (h0 : Pv 0 H0) (hG : ∀ i H, i ≤ n → Pv i H → G H)
    (hs : ∀ i x H H', i < n → Pv i H → Y i H x H' → Body (Pv (i + 1)) x H') (hd : ∀ H, Pv n H → Qd H) :
    ∃ W : Nat → Nat → Hp → Prop, (∃ m, W 0 m H0) ∧ ∀ i m H, W i m H →
      (J.stop i H ∧ Qd H) ∨ (J.go i H ∧ ∃ Nx : Hp → Prop, (∀ H', Nx H' → ∃ m', m' < m ∧ W (i + 1) m' H') ∧ ∀ x H', J.yld i H x H' → Body Nx x H') := by
  refine ⟨fun i m H => m = n - i ∧ i ≤ n ∧ Pv i H, ⟨n, rfl, Nat.zero_le _, h0⟩, ?_⟩
  rintro i m H ⟨rfl, hi, p⟩
  have q := hG i H hi p
  by_cases hlt : i < n
  · exact .inr ⟨w.goes i H hlt q, Pv (i + 1), fun H' p' => ⟨n - (i + 1), Nat.sub_lt_sub_left hlt (Nat.lt_succ_self i), rfl, hlt, p'⟩, fun x H' y => hs i x H H' hlt p (w.yields i H x H' hlt q y)⟩
  · obtain rfl : i = n := by omega
    exact .inl ⟨w.stops H q, hd H p⟩; skip
theorem visits_len (n : Nat) : ∀ bs : List Nat, (visits n bs).length = bs.length * n
  | [] => by simp [visits]
  | b :: bs => by
    have := visits_len n bs
    unfold visits at this ⊢
    rw [List.flatMap_cons, List.length_append, this, List.length_map, List.length_range, List.length_cons, Nat.succ_mul, Nat.add_comm]
theorem visits_snoc (n b : Nat) (bs : List Nat) : visits n (bs ++ [b]) = visits n bs ++ (List.range n).map fun v => (b + v) % n := by
  unfold visits
  rw [List.flatMap_append]
  simp
theorem visits_lt {n : Nat} (h : 0 < n) {bs : List Nat} {p : Nat} (hp : p ∈ visits n bs) : p < n := by
  unfold visits at hp
  obtain ⟨b, _, hb⟩ := List.mem_flatMap.mp hp
  obtain ⟨v, _, rfl⟩ := List.mem_map.mp hb
  exact Nat.mod_lt _ h
theorem nV_get {ns : List Nat} {i : Nat} {x : V} (h : (nV ns)[i]? = some x) : ∃ n : Nat, ns[i]? = some n ∧ x = .int n := by
  unfold nV at h
  rw [List.getElem?_map] at h
  cases e : ns[i]? with
  | none =>
    rw [e] at h
    cases h
  | some n =>
    rw [e] at h
    exact ⟨n, rfl, (Option.some.inj h).symm⟩
theorem nV_snoc (ns : List Nat) (n : Nat) : nV (ns ++ [n]) = nV ns ++ [V.int n] := by
  unfold nV
  rw [List.map_append]
  rfl
theorem nV_len (ns : List Nat) : (nV ns).length = ns.length := List.length_map _
theorem here_eq (b j n : Nat) : ((b : Int) + (0 + (j : Int))) % (n : Int) = (((b + j) % n : Nat) : Int) := by
  rw [Int.zero_add]
  push_cast
  rfl
theorem runC_len {cs : Cs} : ∀ {b : Bool} (is : List Nat), (runC cs b is).length = cs.length := fun {b} is => by
  induction is generalizing cs b with
  | nil => rfl
  | cons i is ih => exact (ih).trans visit_len
theorem upd_upd {p : Addr} {H : Hp} {o u : HO} : L2.upd (L2.upd H p o) p u = L2.upd H p u := by
  funext b
  by_cases h : b = p
  · subst h
    rw [upd_same, upd_same]
  · rw [upd_ne h, upd_ne h, upd_ne h]
theorem seq_by {t1 t2 : TS} {D : Ends} {σ : L2.St} {H : Hp} (Mid : L2.St → Hp → Prop) (h2 : ∀ σ' H', Mid σ' H' → t2 D σ' H') (h1 : (∀ σ' H', Mid σ' H' → t2 D σ' H') → t1 { D with nx := t2 D } σ H) : tSeq t1 t2 D σ H := h1 h2
theorem runC_app {cs : Cs} : ∀ {b : Bool} (is js : List Nat), runC cs b (is ++ js) = runC (runC cs b is) (b && is.isEmpty) js := fun {b} is js => by
  induction is generalizing cs b with
  | nil => simp [runC]
  | cons i is ih => simp [runC, ih]
theorem cs0_alive {n s : Nat} (h : s < n) : minO (cs0 n s) ≠ none := fun e => by
  have := minO_none.mp e (some 0) (List.mem_of_getElem? (i := s) (by
    unfold cs0
    rw [List.getElem?_set_self (by rw [List.length_replicate]; exact h)]))
  cases this
theorem min_is {cs : Cs} {m : Int} (h : m ∈ somes cs) (l : ∀ y, y ∈ somes cs → m ≤ y) : minO cs = some m := minO_some.mpr ⟨somes_mem.mp h, fun x hx => l x (somes_mem.mpr hx)⟩
theorem somes_pos {cs : Cs} (h : minO cs ≠ none) : 0 < (somes cs).length := by
  cases e : minO cs with
  | none => exact absurd e h
  | some m => exact List.length_pos_of_mem (somes_mem.mpr (minO_some.mp e).1)
abbrev nLM : List Str := ["pages", "begins", "page", "costs", "visits", "number", "here", "moved", "begin", "visit", "other"]
section
variable {P : Program} {K : PySem.W.Frag} {w : World} {base : Heap} {mg : Str → Option Value}
theorem scLM : FnScope nLM ["pages", "begins", "page"] (defScope sLM) := ⟨rfl, rfl, rfl, by decide +kernel, rfl, by decide +kernel, by decide +kernel⟩
theorem ok_lm {f : Addr} {fd : FuncData} (F : Fun K "_least_moves" "_least_moves" sLM f fd) (T : Cst mg) : FnOk P w K mg base CX0 1 f fd ["pages", "begins", "page"] (spLM K) := by
  refine F.ok scLM (fun vs H Q E h => ?_) (fun cdv A outer s0 H vs Q E hr h => ?_)
  · obtain ⟨a, n, s, bs, rfl, _⟩ := h
    rfl
  · obtain ⟨a, n, s, bs, rfl, hB, hl, n6, hs, q⟩ := h
    have hu := hu_of hr
    have it : ∃ (wi : TI) (J : It), PI (cxOf CX0 P w K mg base nLM "_least_moves" (defScope sLM) f cdv A outer s0 H E).nox (match defBody sLM with
        | [_, .Assign _ (.ListComp _ [⟨tg, _, _, _⟩, _] _ _) _, _, _] => tg
        | _ => .Constant .none 0 ⟨0, 0, 0, 0⟩) (match defBody sLM with
        | [_, .Assign _ (.ListComp _ [⟨_, it, _, _⟩, _] _ _) _, _, _] => it
        | _ => .Constant .none 0 ⟨0, 0, 0, 0⟩) wi ∧ (∀ (σ : L2.St) (G : Hp) R, σ[1]? = some (some (.ref a)) → Same H G → R J G → wi σ G R) ∧ L2.Walk J bs.length (fun G => Same H G) (YAt (nV bs)) := by
      rcases hB with ⟨ys, ha, rfl⟩ | ⟨ys, ha, rfl⟩
      · refine ⟨_, Itl K a, pi_list (pv 1), fun σ G R hσ sG r => ⟨_, hσ, a, rfl, ⟨_, SqL.of (sG _ _ ha)⟩, r⟩, ?_⟩
        have := walk_list (K := K) (a := a) (xs := nV bs)
        rw [show (nV bs).length = bs.length from List.length_map _] at this
        exact this.mono (fun G sG => SqL.of (sG _ _ ha)) fun _ _ _ _ _ _ y => y
      · refine ⟨_, Itt K a, pi_tup (pv 1), fun σ G R hσ sG r => ⟨_, hσ, a, rfl, ⟨_, SqT.of (sG _ _ ha)⟩, r⟩, ?_⟩
        have := walk_tup (K := K) (a := a) (xs := nV bs)
        rw [show (nV bs).length = bs.length from List.length_map _] at this
        exact this.mono (fun G sG => SqT.of (sG _ _ ha)) fun _ _ _ _ _ _ y => y
    obtain ⟨wi, J, hit, hwi, hw⟩ := it
    refine ⟨_, pss_cons (ps_set (i := 3) scLM.nd rfl (Or.inr rfl) (pe_disp (pps_cons (pv 2) pe_int pps_nil) (by rfl) (by rfl) (fun z => by cases z) (by decide)))
      (pss_cons (ps_setLc2 (i := 4) (own := [("begin", 8), ("visit", 9)]) (g := gName 8) (g1 := gName 9) (tt := tYes) (tt1 := tYes) (vs1 := [9]) rfl scLM.nd rfl rfl (sw_true rfl rfl rfl (by decide +kernel)) hit (blkOk_by (own := [("begin", 8), ("visit", 9)]) (N := nLM) (sc := defScope sLM) (by decide +kernel)) (by decide)
        (fun _ _ _ _ _ => pg_name (i := 8) scLM.nd rfl (Or.inl rfl)) (fun _ _ _ _ _ => pts_nil) (fun _ _ _ _ _ => pi_range1 rfl T.rng (pa_cons (pv 0) pa_nil)) (fun _ _ _ _ _ => pg_name (i := 9) scLM.nd rfl (Or.inl rfl)) (fun _ _ _ _ _ => pts_nil) (fun _ _ _ _ _ => pe_op op_mod (pe_op op_add (pv 8) (pv 9)) (pv 0)))
      (pss_cons (ps_for PassesOwn.never rfl (pi_enum rfl T.enum (pa_cons (pv 4) pa_nil)) (pg_tup rfl (pgs_cons (pg_name (i := 5) scLM.nd rfl (Or.inl rfl)) (pgs_cons (pg_name (i := 6) scLM.nd rfl (Or.inr rfl)) pgs_nil)))
        (pss_cons (ps_if (pt_cmpR op_gt (pv 5) pe_int (nomark _))
          (pss_cons (ps_set (i := 7) scLM.nd rfl (Or.inr rfl) (pe_op op_add (pe_callB (cr_min rfl) (by rfl) T.min_ (by decide +kernel) (pa_cons (pe_listVals rfl (pv 3) rfl T.tlst) pa_nil)) pe_int))
          (pss_one (ps_set (i := 3) scLM.nd rfl (Or.inr rfl) (pe_dc (own := [("other", 10)]) (g := gName 10) (tt := tYes) rfl scLM.nd (pi_range1 rfl T.rng (pa_cons (pv 0) pa_nil)) (blkOk_by (own := [("other", 10)]) (N := nLM) (sc := defScope sLM) (by decide +kernel))
            (fun _ _ _ _ _ => pg_name (i := 10) scLM.nd rfl (Or.inl rfl)) (fun _ _ _ _ _ => pts_nil) (fun _ _ _ _ _ => pv 10) (fun _ _ _ _ _ => pe_callB (call_min2 rfl) (by rfl) T.min_ (by decide +kernel) (pa_cons (pe_dget2 hu (pv 3) (pv 10) (pv 7) ⟨rfl, rfl, rfl, rfl⟩) (pa_cons (pv 7) pa_nil))))))) pss_nil)
        (pss_cons (ps_set (i := 3) scLM.nd rfl (Or.inr rfl) (pe_lock (pe_dc (own := [("other", 10)]) (g := gName 10) (tt := _) rfl scLM.nd (pi_keys (pv 3)) (blkOk_by (own := [("other", 10)]) (N := nLM) (sc := defScope sLM) (by decide +kernel))
            (fun _ _ _ _ _ => pg_name (i := 10) scLM.nd rfl (Or.inl rfl)) (fun _ _ _ _ _ => pts_one (pt_cmpR op_ne (pv 10) (pv 6) (nomark _))) (fun _ _ _ _ _ => pv 10) (fun _ _ _ _ _ => pe_dget hu (pv 3) (pv 10) (fun _ _ => rfl)))))
        (pss_one (ps_if (pt_not (pt_truth (pv 3) (by intro _; rfl))) (pss_one (ps_ret pe_non)) pss_nil)))))
      (pss_one (ps_ret (pe_callB (cr_min rfl) (by rfl) T.min_ (by decide +kernel) (pa_cons (pe_listVals rfl (pv 3) rfl T.tlst) pa_nil)))))), ?_⟩
    refine fun p hp => ⟨_, rfl, upd_same, [(Sum.inl (s : Int), .int 0)], rfl, by show 1 ≤ 15; decide, ?_⟩
    rw [upd_upd, show mergeK [] [(Sum.inl (s : Int), V.int 0)] = dOf (cs0 n s) from (cs0_dict n s hs).symm]
    have sp : Same H (upd H p (.dK (dOf (cs0 n s)))) := same_up hp
    have hp1 : upd H p (.dK (dOf (cs0 n s))) p = some (.dK (dOf (cs0 n s))) := upd_same
    generalize upd H p (.dK (dOf (cs0 n s))) = G0 at sp hp1 ⊢
    refine hwi _ _ _ rfl sp fun D hD => ?_
    have pD : p ≠ D := ne_of_none hp1 hD
    have fD : H D = none := sp.free hD
    refine walk_core hw (fun i G => Same H G ∧ G p = some (.dK (dOf (cs0 n s))) ∧ G D = some (.lst (nV (visits n (bs.take i))))) ⟨sp.trans (same_up hD), (upd_ne pD).trans hp1, upd_same⟩ (fun i G _ h => h.1) ?_ ?_
    · rintro i x G G' hi ⟨s1, hp2, hD2⟩ ⟨rfl, hx⟩
      obtain ⟨b, hb, rfl⟩ := nV_get hx
      refine ⟨rfl, _, rfl, n, rfl, by omega, by omega, ?_⟩
      refine walk_core (walk_range (lo := 0) (n := (n : Int).toNat)) (fun j F => Same H F ∧ F p = some (.dK (dOf (cs0 n s))) ∧ F D = some (.lst (nV (visits n (bs.take i) ++ (List.range j).map fun v => (b + v) % n)))) ⟨s1, hp2, by rw [List.range_zero, List.map_nil, List.append_nil]; exact hD2⟩ (fun _ _ _ _ => trivial) ?_ ?_
      · rintro j y F F' hj ⟨s2, hp3, hD3⟩ ⟨rfl, rfl⟩
        refine ⟨rfl, _, rfl, _, rfl, _, _, rfl, rfl, _, rfl, _, _, rfl, rfl, by omega, ?_⟩
        refine ⟨_, hD3, ?_, ?_, (upd_ne pD).trans hp3, ?_⟩
        · rw [nV_len, List.length_append, visits_len, List.length_map, List.length_range]
          have h1 : (bs.take i).length ≤ 5 := Nat.le_trans (List.length_take_le _ _) (by omega)
          have h2 : (bs.take i).length * n ≤ 5 * 6 := Nat.mul_le_mul h1 n6
          exact small1000 (by omega)
        · intro c o hc
          rw [upd_ne (ne_of_none hc fD)]
          exact s2 c o hc
        · rw [upd_same]
          show some (HO.lst (nV _ ++ [V.int (((b : Int) + (0 + (j : Int))) % (n : Int))])) = _
          rw [here_eq, List.range_succ, List.map_append, ← List.append_assoc, List.map_singleton, nV_snoc]
      · rintro F ⟨s2, hp3, hD3⟩
        refine ⟨s2, hp3, ?_⟩
        rw [take_snoc hb, visits_snoc]
        exact hD3
    rintro G1 ⟨s1, hp2, hD2⟩
    rw [List.take_length] at hD2
    generalize hvs : visits n bs = vs at hD2
    have lvs : vs.length ≤ 30 := by
      rw [← hvs, visits_len]
      exact Nat.le_trans (Nat.mul_le_mul hl n6) (by decide)
    have vlt : ∀ p ∈ vs, p < n := fun p hp => visits_lt (by omega) (hvs ▸ hp)
    have fp : H p = none := hp
    refine ⟨_, rfl, D, nV vs, rfl, SqL.of hD2, ?_⟩
    refine for_it (walk_enum (K := K) (a := D) (xs := nV vs)) (fun i σ G => ∃ d x5 x6 x7, σ = [some (.int n), some (.ref a), some (.int s), some (.ref d), some (.ref D), x5, x6, x7, none, none, none] ∧ Same H G ∧ H d = none ∧ d ≠ D ∧ G d = some (.dK (dOf (runC (cs0 n s) true (vs.take i)))) ∧ G D = some (.lst (nV vs)) ∧ (minO (runC (cs0 n s) true (vs.take i)) ≠ none))
      ⟨p, _, _, _, rfl, s1, fp, pD, hp2, hD2, ?_⟩ (fun i σ G _ h => by
        obtain ⟨_, _, _, _, _, _, _, _, _, h, _⟩ := h
        exact SqL.of h) ?_ ?_
    · exact cs0_alive hs
    · rintro i x σ G G' hi ⟨d, x5, x6, x7, rfl, s2, fd, dD, hd, hD2, al⟩ ⟨T0, u, v, rfl, nT, rfl, hu, hv⟩
      cases hu
      obtain ⟨hh, hg, rfl⟩ := nV_get hv
      have hlt := vlt hh (List.mem_of_getElem? hg)
      have sT : Same G (upd G T0 (.tup [.int (i : Nat), .int hh])) := same_up nT
      have hd3 := sT _ _ hd
      have hD3 := sT _ _ hD2
      have s3 := s2.trans sT
      refine ⟨T0, _, rfl, SqT.of upd_same, rfl, _, _, rfl, _, _, rfl, rfl, ?_⟩
      generalize upd G T0 (.tup [.int (i : Nat), .int hh]) = G2 at s3 hd3 hD3 ⊢
      generalize hcs : runC (cs0 n s) true (vs.take i) = cs at hd3 al ⊢
      have lcs : cs.length = n := by rw [← hcs, runC_len, cs0_len]
      refine seq_by (fun σ' F => ∃ d' x7', σ' = [some (.int n), some (.ref a), some (.int s), some (.ref d'), some (.ref D), some (.int (i : Nat)), some (.int hh), x7', none, none, none] ∧ Same H F ∧ H d' = none ∧ d' ≠ D ∧ F d' = some (.dK (dOf (if (true && (vs.take i).isEmpty) = true then cs else sprd cs))) ∧ F D = some (.lst (nV vs))) ?_ ?_
      · rintro σ' F ⟨d', x7', rfl, s4, fd', dD', hd', hD'⟩
        generalize hc2 : (if (true && (vs.take i).isEmpty) = true then cs else sprd cs) = cs' at hd'
        have hv2 : runC (cs0 n s) true (vs.take (i + 1)) = kill cs' hh := by
          rw [take_snoc hg, runC_snoc, hcs]
          unfold visit
          rw [hc2]
        have lcs' : cs'.length = n := by
          rw [← hc2]
          split
          · exact lcs
          · rw [sprd_len, lcs]
        refine ⟨d', _, hd', trivial, fun od => ⟨_, rfl, d', od, rfl, .inl ⟨_, upd_same, fun D2 hD2' => ?_⟩⟩⟩
        have dD2 : d' ≠ D2 := ne_of_none upd_same hD2'
        have fD2 : F D2 = none := by
          rw [upd_ne (Ne.symm dD2)] at hD2'
          exact hD2'
        have DD2 : D ≠ D2 := ne_of_none hD' fD2
        have gD2 : H D2 = none := s4.free fD2
        have sL : Same H (upd F d' (.frz od (.dK (dOf cs')))) := fun c o hc => (upd_ne (ne_of_none hc fd')).trans (s4 c o hc)
        refine walk_core (walk_keys (d := d') (o := od) (kvs := dOf cs')) (fun j F2 => Same H F2 ∧ F2 d' = some (.frz od (.dK (dOf cs'))) ∧ F2 D = some (.lst (nV vs)) ∧ F2 D2 = some (.dK (((dOf cs').take j).filter fun e => decide (e.1 ≠ Sum.inl (hh : Int))))) ⟨sL.trans (same_up hD2'), (upd_ne dD2).trans upd_same, (upd_ne DD2).trans ((upd_ne (Ne.symm dD')).trans hD'), upd_same⟩ (fun _ _ _ h => h.2.1) ?_ ?_
        · rintro j y F2 F3 hj ⟨s5, h1, h2, h3⟩ ⟨rfl, k, z, hk, rfl⟩
          obtain ⟨qn, _, _, ek⟩ := dFrom_key (List.mem_of_getElem? hk)
          have ek : k = Sum.inl (qn : Int) := ek
          subst ek
          have stp := take_snoc hk
          refine ⟨rfl, _, rfl, _, rfl, rfl, _, rfl, ?_⟩
          refine ite2 (fun e => ?_) fun e => ?_
          · have e : (!decide (V.int (qn : Int) = V.int (hh : Int))) = true := e
            have ne : (qn : Int) ≠ (hh : Int) := fun z => by
              rw [show decide (V.int (qn : Int) = V.int (hh : Int)) = true from decide_eq_true (congrArg V.int z)] at e
              cases e
            have kn : decide ((Sum.inl (qn : Int) : Key) ≠ Sum.inl (hh : Int)) = true := decide_eq_true fun z => ne (by injection z)
            refine ⟨_, rfl, _, rfl, _, rfl, d', z, rfl, .inl ⟨_, Sum.inl (qn : Int), .inr ⟨od, h1⟩, rfl, (val_at (dFrom_nodup cs' 0) hk).symm⟩, ?_⟩
            refine ⟨_, Sum.inl (qn : Int), rfl, h3, ?_, fun c o hc => ?_, ?_, ?_, ?_⟩
            · have h5 : ((dOf cs').take j).length ≤ (dOf cs').length := by
                rw [List.length_take]
                exact Nat.min_le_right _ _
              exact small1000 (Nat.le_trans (List.length_filter_le _ _) (Nat.le_trans h5 (Nat.le_trans (dFrom_len cs' 0) (by omega))))
            · rw [upd_ne (ne_of_none hc gD2)]
              exact s5 c o hc
            · exact (upd_ne dD2).trans h1
            · exact (upd_ne DD2).trans h2
            · rw [upd_same, put_new fun e he => before_ne (dFrom_nodup cs' 0) hk e (List.mem_filter.mp he).1, stp, List.filter_append, List.filter_cons_of_pos (p := fun e : Key × V => decide (e.1 ≠ Sum.inl (hh : Int))) (a := (Sum.inl (qn : Int), z)) kn, List.filter_nil]
          · have eq : (qn : Int) = (hh : Int) := by
              by_cases z : (qn : Int) = (hh : Int)
              · exact z
              · have e : ¬ (!decide (V.int (qn : Int) = V.int (hh : Int))) = true := e
                rw [show decide (V.int (qn : Int) = V.int (hh : Int)) = false from decide_eq_false fun y => z (by injection y)] at e
                exact absurd rfl e
            refine ⟨s5, h1, h2, ?_⟩
            rw [stp, List.filter_append, List.filter_cons_of_neg (by rw [eq]; simp), List.filter_nil, List.append_nil]
            exact h3
        · rintro F2 ⟨s5, h1, h2, h3⟩
          rw [List.take_length, show ((dOf cs').filter fun e => decide (e.1 ≠ Sum.inl (hh : Int))) = dOf (kill cs' hh) from by
            have := dFrom_kill cs' 0 hh
            rw [Nat.zero_add] at this
            exact this.symm] at h3
          have s6 : Same H (upd F2 d' (.dK (dOf cs'))) := fun c o hc => (upd_ne (ne_of_none hc fd')).trans (s5 c o hc)
          have h7 : upd F2 d' (.dK (dOf cs')) D2 = some (.dK (dOf (kill cs' hh))) := (upd_ne (Ne.symm dD2)).trans h3
          refine ⟨h1, _, rfl, _, .inr (.inr ⟨_, h7, rfl⟩), ?_⟩
          refine ite2 (fun e => ?_) fun e => ?_
          · have dead : minO (kill cs' hh) = none := dOf_nil.mp (by simpa using e)
            have := q _ s6
            unfold least at this
            rw [hvs] at this
            have e9 : minO (runC (cs0 n s) true vs) = none := by
              have e8 := runC_app (cs := cs0 n s) (b := true) (vs.take (i + 1)) (vs.drop (i + 1))
              rw [List.take_append_drop, hv2] at e8
              rw [e8]
              exact dead_run _ dead
            rw [e9] at this
            exact this
          · refine ⟨D2, _, _, _, rfl, s6, gD2, Ne.symm DD2, ?_, (upd_ne (Ne.symm dD')).trans h2, ?_⟩
            · rw [hv2]
              exact h7
            · rw [hv2]
              intro z
              rw [dOf_nil.mpr z] at e
              exact e rfl
      · intro rest
        refine ⟨_, rfl, _, _, rfl, rfl, _, rfl, ?_⟩; skip
        refine ite2 (fun e => ?_) fun e => ?_
        · have i0 : 0 < i := by
            have := of_decide_eq_true e
            omega
          have ne : (true && (vs.take i).isEmpty) = false := by
            rw [Bool.true_and, List.isEmpty_eq_false_iff]
            intro z
            have := congrArg List.length z
            rw [List.length_take, List.length_nil] at this
            rw [nV_len] at hi
            omega
          refine ⟨_, rfl, d, _, rfl, hd3, fun l hl => ⟨l, somes cs, rfl, SqL.of (by rw [upd_same, dFrom_vals]), somes_pos al, fun m hm hle => ⟨_, _, rfl, rfl, ?_⟩⟩⟩
          have hmin := min_is hm hle
          have sl : Same G2 (upd G2 l (.lst ((dOf cs).map (·.2)))) := same_up hl
          have s5 := s3.trans sl
          have hd5 := sl _ _ hd3
          have hD5 := sl _ _ hD3
          generalize upd G2 l (.lst ((dOf cs).map (·.2))) = G3 at s5 hd5 hD5 ⊢
          refine ⟨_, rfl, n, rfl, by omega, by omega, fun D2 hD2' => ?_⟩
          have dD2 : d ≠ D2 := ne_of_none hd5 hD2'
          have DD2 : D ≠ D2 := ne_of_none hD5 hD2'
          have gD2 : H D2 = none := s5.free hD2'
          have esp : sprd cs = cs.map (up1 m) := by
            unfold sprd
            rw [hmin]
          refine walk_core (walk_range (lo := 0) (n := (n : Int).toNat)) (fun j F2 => Same H F2 ∧ F2 d = some (.dK (dOf cs)) ∧ F2 D = some (.lst (nV vs)) ∧ F2 D2 = some (.dK (dOf ((cs.map (up1 m)).take j)))) ⟨s5.trans (same_up hD2'), (upd_ne dD2).trans hd5, (upd_ne DD2).trans hD5, upd_same⟩ (fun _ _ _ _ => trivial) ?_ ?_
          · rintro j y F2 F3 hj ⟨s6, h1, h2, h3⟩ ⟨rfl, rfl⟩
            have hj : j < n := hj
            have ev : valV (dOf cs) (Sum.inl (0 + (j : Int))) = (cs.getD j none).map V.int := by
              have := dFrom_val cs 0 j
              rw [Nat.zero_add] at this
              rw [Int.zero_add]
              exact this
            have key : ∀ x : Int, up1 m (cs.getD j none) = some x → ∃ kvs k, V.int (0 + (j : Int)) = kV k ∧ F3 D2 = some (.dK kvs) ∧ kvs.length < sizeLine ∧ (Same H (upd F3 D2 (.dK (putK kvs k (.int x)))) ∧ upd F3 D2 (.dK (putK kvs k (.int x))) d = some (.dK (dOf cs)) ∧ upd F3 D2 (.dK (putK kvs k (.int x))) D = some (.lst (nV vs)) ∧ upd F3 D2 (.dK (putK kvs k (.int x))) D2 = some (.dK (dOf ((cs.map (up1 m)).take (j + 1))))) := fun x hx => by
              refine ⟨_, Sum.inl (0 + (j : Int)), rfl, h3, ?_, fun c o hc => ?_, (upd_ne dD2).trans h1, (upd_ne DD2).trans h2, ?_⟩
              · have h4 : (dOf ((cs.map (up1 m)).take j)).length ≤ ((cs.map (up1 m)).take j).length := dFrom_len _ 0
                rw [List.length_take, List.length_map] at h4
                exact small1000 (by omega)
              · rw [upd_ne (ne_of_none hc gD2)]
                exact s6 c o hc
              · have lt : ((cs.map (up1 m)).take j).length = j := by
                  rw [List.length_take, List.length_map, lcs]
                  omega
                have e1 : (cs.map (up1 m))[j]? = some (some x) := by
                  rw [List.getElem?_map, ← hx, List.getD_eq_getElem?_getD, List.getElem?_eq_getElem (by rw [lcs]; exact hj)]
                  rfl
                have e2 := dOf_put (cs := (cs.map (up1 m)).take j) (x := x)
                rw [lt] at e2
                rw [upd_same, Int.zero_add, e2, take_snoc e1]
            refine ⟨rfl, _, rfl, _, rfl, d, rfl, .inl ⟨_, .inl h1⟩, _, rfl, _, rfl, _, .inl ⟨_, Sum.inl (0 + (j : Int)), .inl h1, rfl, rfl⟩, ?_⟩
            rw [ev]
            cases ec : cs.getD j none with
            | none =>
              refine ⟨_, rfl, _, _, rfl, ?_⟩
              refine key _ ?_
              rw [ec, up1, if_neg (by omega)]
            | some x =>
              refine ⟨_, rfl, _, _, rfl, ?_⟩
              refine key _ ?_
              rw [ec, up1]
          · rintro F2 ⟨s6, h1, h2, h3⟩
            refine rest _ _ ⟨D2, _, rfl, s6, gD2, Ne.symm DD2, ?_, h2⟩
            rw [if_neg (by rw [ne]; decide), esp]
            rw [List.take_of_length_le (by rw [List.length_map, lcs]; exact Nat.le_refl _)] at h3
            exact h3
        · have i0 : i = 0 := by
            by_cases z : i = 0
            · exact z
            · exact absurd (decide_eq_true (by omega : (0 : Int) < (i : Nat))) e
          refine rest _ _ ⟨d, _, rfl, s3, fd, dD, ?_, hD3⟩
          rw [if_pos (by rw [i0]; rfl)]
          exact hd3
    · rintro σ G ⟨d, x5, x6, x7, rfl, s2, fd, dD, hd, hD2, al⟩
      rw [nV_len, List.take_length] at hd al
      refine ⟨_, rfl, d, _, rfl, hd, fun l hl => ⟨l, somes (runC (cs0 n s) true vs), rfl, SqL.of ?_, somes_pos al, fun m hm hle => ?_⟩⟩
      · rw [upd_same, dFrom_vals]
      · have := q _ (s2.trans (same_up (o := .lst ((dOf (runC (cs0 n s) true vs)).map (·.2))) hl))
        unfold least at this
        rw [hvs, min_is hm hle] at this
        exact this
end
end Pl

namespace Pl
open L2 PySem PySem.Spec PyProof.Rows
inductive FlL : List V → List PyData → Prop
  | nil : FlL [] []
  | cons {v : V} {d : PyData} {vs : List V} {ds : List PyData} (a : Fl v d) (t : FlL vs ds) : FlL (v :: vs) (d :: ds)
theorem FlL.len : ∀ {vs : List V} {ds : List PyData}, FlL vs ds → vs.length = ds.length
  | _, _, .nil => rfl
  | _, _, .cons _ t => congrArg Nat.succ t.len
theorem FlL.at : ∀ {vs : List V} {ds : List PyData} {i : Nat} {v : V}, FlL vs ds → vs[i]? = some v → ∃ d, ds[i]? = some d ∧ Fl v d
  | _, _, _, _, .nil, e => absurd e (by simp)
  | _, _, 0, _, .cons a _, e => by simp at e; subst e; exact ⟨_, rfl, a⟩
  | _, _, i + 1, _, .cons _ t, e => by
    obtain ⟨d, h1, h2⟩ := FlL.at (i := i) t (by simpa using e)
    exact ⟨d, by simpa using h1, h2⟩
theorem FlL.ints : ∀ ns : List Nat, FlL (nV ns) (ns.map fun (n : Nat) => PyData.int (n : Int))
  | [] => .nil
  | n :: ns => .cons (.int _) (FlL.ints ns)
/-- what is handed in as a list of pages -/
inductive Lz (K : PySem.W.Frag) (H : Hp) : V → Option (List PyData) → Prop
  | no {v : V} {kd : String} (t : ∀ G, Same H G → TyX K G v (.type kd)) (nl : PySem.W.kitOne K (.type kd) (.type "list") = some false) (nt : PySem.W.kitOne K (.type kd) (.type "tuple") = some false) : Lz K H v none
  | lst {a : Addr} {vs : List V} {ds : List PyData} (h : H a = some (.lst vs)) (m : FlL vs ds) (l : vs.length ≤ 100) : Lz K H (.ref a) (some ds)
  | tup {a : Addr} {vs : List V} {ds : List PyData} (h : H a = some (.tup vs)) (m : FlL vs ds) (l : vs.length ≤ 100) : Lz K H (.ref a) (some ds)
theorem Lz.same {K : PySem.W.Frag} {H G : Hp} {v : V} {o : Option (List PyData)} (h : Lz K H v o) (s : Same H G) : Lz K G v o := by
  cases h with
  | no t nl nt => exact .no (fun F x => t F (s.trans x)) nl nt
  | lst h m l => exact .lst (s _ _ h) m l
  | tup h m l => exact .tup (s _ _ h) m l
def sized (lo hi : Int) (ds : List PyData) : Bool := decide (lo ≤ (ds.length : Int)) && decide ((ds.length : Int) ≤ hi)
def okZ (n : Nat) (lo hi : Int) : Option (List PyData) → Bool
  | none => false
  | some ds => sized lo hi ds && ds.all fun d => within d 0 ((n : Int) - 1)
def spListed (K : PySem.W.Frag) (C : Addr) : Sp := fun vs H Q E => ∃ (n : Nat) (v : V) (lo hi : Int) (o : Option (List PyData)), vs = [.int n, v, .int lo, .int hi] ∧ Lz K H v o ∧ (okZ n lo hi o = true → ∀ H', Same H H' → Q .non H') ∧ (okZ n lo hi o = false → Rais C v H E)
abbrev psL : List Str := ["pages", "listed", "least", "most"]
abbrev nL : List Str := ["pages", "listed", "least", "most", "page"]
section
variable {P : Program} {K : PySem.W.Frag} {w : World} {base : Heap} {mg : Str → Option Value} {C CN CP : Addr}
theorem kitAny_no {kd : String} (nl : PySem.W.kitOne K (.type kd) (.type "list") = some false) (nt : PySem.W.kitOne K (.type kd) (.type "tuple") = some false) : PySem.W.kitAny K (.type kd) [.type "list", .type "tuple"] = some false := by
  unfold PySem.W.kitAny
  rw [nl]
  show PySem.W.kitAny K (.type kd) [.type "tuple"] = some false
  unfold PySem.W.kitAny
  rw [nt]
  rfl
theorem kitAny_l : PySem.W.kitAny K (.type "list") [.type "list", .type "tuple"] = some true := by
  unfold PySem.W.kitAny
  rw [show PySem.W.kitOne K (.type "list") (.type "list") = some true from kit_ty (show kitB "list" "list" = some true from by decide +kernel)]
theorem kitAny_t : PySem.W.kitAny K (.type "tuple") [.type "list", .type "tuple"] = some true := by
  unfold PySem.W.kitAny
  rw [show PySem.W.kitOne K (.type "tuple") (.type "list") = some false from kit_ty (show kitB "tuple" "list" = some false from by decide +kernel)]
  show PySem.W.kitAny K (.type "tuple") [.type "tuple"] = some true
  unfold PySem.W.kitAny
  rw [show PySem.W.kitOne K (.type "tuple") (.type "tuple") = some true from kit_ty (show kitB "tuple" "tuple" = some true from by decide +kernel)]
theorem scListed : FnScope nL psL (defScope sCkListed) := ⟨rfl, rfl, rfl, by decide +kernel, rfl, by decide +kernel, by decide +kernel⟩
theorem ok_listed {f : Addr} {fd : FuncData} (F : Fun K "_check_listed" "_check_listed" sCkListed f fd) (T : Cst mg) (M : Mak P w K mg base "NoPage" C) (D1 : Df P w K mg base 2 "is_within" ["value", "least", "most"] spW) : FnOk P w K mg base (L2.CX P w) 3 f fd psL (spListed K C) := by
  obtain ⟨e1, fd1, G1, m1, k1, b1⟩ := D1.ex
  obtain ⟨fI, fdI, TE, GI, bI⟩ := M.ex
  refine F.okX scListed (fun vs H Q E h => ?_) (fun cdv A outer s0 H vs Q E hr h => ?_)
  · obtain ⟨n, v, lo, hi, o, rfl, _⟩ := h
    rfl
  · obtain ⟨n, v, lo, hi, o, rfl, hz, q1, q2⟩ := h
    have it : ∃ (wi : TI), PI (cxOf (L2.CX P w) P w K mg base nL "_check_listed" (defScope sCkListed) f cdv A outer s0 H E) (match defBody sCkListed with
        | [_, .If (.UnaryOp _ (.Call _ [.ListComp _ [⟨tg, _, _, _⟩] _ _] _ _) _) _ _ _] => tg
        | _ => .Constant .none 0 ⟨0, 0, 0, 0⟩) (match defBody sCkListed with
        | [_, .If (.UnaryOp _ (.Call _ [.ListComp _ [⟨_, it, _, _⟩] _ _] _ _) _) _ _ _] => it
        | _ => .Constant .none 0 ⟨0, 0, 0, 0⟩) wi ∧ ∀ ds, o = some ds → ∃ vs J, (∀ (σ : L2.St) (G : Hp) R, σ[1]? = some (some v) → Same H G → R J G → wi σ G R) ∧ L2.Walk J ds.length (fun G => Same H G) (YAt vs) ∧ FlL vs ds := by
      cases hz with
      | no t nl nt => exact ⟨_, pi_list (pv 1), fun ds e => by cases e⟩
      | @lst a vs ds h m l =>
        refine ⟨_, pi_list (pv 1), fun ds e => ?_⟩
        cases e
        refine ⟨vs, Itl K a, fun σ G R hσ sG r => ⟨_, hσ, a, rfl, ⟨_, SqL.of (sG _ _ h)⟩, r⟩, ?_, m⟩
        have := walk_list (K := K) (a := a) (xs := vs)
        rw [m.len] at this
        exact this.mono (fun G sG => SqL.of (sG _ _ h)) fun _ _ _ _ _ _ y => y
      | @tup a vs ds h m l =>
        refine ⟨_, pi_tup (pv 1), fun ds e => ?_⟩
        cases e
        refine ⟨vs, Itt K a, fun σ G R hσ sG r => ⟨_, hσ, a, rfl, ⟨_, SqT.of (sG _ _ h)⟩, r⟩, ?_, m⟩
        have := walk_tup (K := K) (a := a) (xs := vs)
        rw [m.len] at this
        exact this.mono (fun G sG => SqT.of (sG _ _ h)) fun _ _ _ _ _ _ y => y
    obtain ⟨wi, hit, hwi⟩ := it
    refine ⟨_, pss_cons (ps_if (PW.pt (pw_or (pt_not (pt_val (pe_callB call_isiT (by rfl) T.isi (by decide +kernel) (pa_cons (pv 1) (pa_cons (pe_tup (pa_cons (pe_bltn (v := .ty "list") (by rfl) T.tlst (by decide +kernel) rfl) (pa_cons (pe_bltn (v := .ty "tuple") (by rfl) T.ttup (by decide +kernel) rfl) pa_nil))) pa_nil)))))
        (pw_or1 (pt_not (pt_chain op_le op_le (pv 2) (pe_callB call_len_seq (by rfl) T.len PySem.boot_len (pa_cons (pv 1) pa_nil)) (pv 3))))))
        (pss_one (ps_raise rfl (takes_of rfl rfl rfl rfl) (pmk_oex TE.ox TE.iC TE.tI GI (hr.mono (by decide)) bI .nil pass0 (by rfl) TE.gC (pa_cons (pv 1) pa_nil)))) pss_nil)
      (pss_one (ps_if (pt_not (pt_val (pe_callB (cr_all rfl) (by rfl) T.all_ (by decide +kernel) (pa_cons (pe_lc (own := [("page", 4)]) (g := gName 4) (tt := tYes) rfl scListed.nd hit (blkOk_by (own := [("page", 4)]) (N := nL) (sc := defScope sCkListed) (by decide +kernel))
          (fun _ _ _ _ _ => pg_name (i := 4) scListed.nd rfl (Or.inl rfl)) (fun _ _ _ _ _ => pts_nil) (fun _ _ _ _ _ => pe_call G1 (hr.mono (by decide)) (by rfl) m1 k1 b1 .nil pass0 (pa_cons (pv 4) (pa_cons pe_int (pa_cons (pe_op op_sub (pv 0) pe_int) pa_nil))))) pa_nil))))
        (pss_one (ps_raise rfl (takes_of rfl rfl rfl rfl) (pmk_oex TE.ox TE.iC TE.tI GI (hr.mono (by decide)) bI .nil pass0 (by rfl) TE.gC (pa_cons (pv 1) pa_nil)))) pss_nil)), ?_⟩
    refine ⟨v, rfl, by show 2 ≤ sizeLine; decide, fun tp htp => ?_⟩
    have sT : Same H (upd H tp (.tup [.ty "list", .ty "tuple"])) := same_up htp
    have kinds : (o = none ∧ ∃ kd, (∀ G, Same H G → TyX K G v (.type kd)) ∧ PySem.W.kitAny K (.type kd) [.type "list", .type "tuple"] = some false) ∨
        ∃ ds vs p kd, o = some ds ∧ v = .ref p ∧ FlL vs ds ∧ vs.length ≤ 100 ∧ (∀ G, Same H G → SqL K G p vs ∨ SqT K G p vs) ∧ (∀ G, Same H G → TyX K G v (.type kd)) ∧ PySem.W.kitAny K (.type kd) [.type "list", .type "tuple"] = some true := by
      cases hz with
      | no t nl nt => exact .inl ⟨rfl, _, t, kitAny_no nl nt⟩
      | lst h m l => exact .inr ⟨_, _, _, _, rfl, rfl, m, l, fun G s => .inl (SqL.of (s _ _ h)), fun G s => .base (.lst (s _ _ h)), kitAny_l⟩
      | tup h m l => exact .inr ⟨_, _, _, _, rfl, rfl, m, l, fun G s => .inr (SqT.of (s _ _ h)), fun G s => .base (.tup (s _ _ h)), kitAny_t⟩
    rcases kinds with ⟨rfl, kd, ty, ka⟩ | ⟨ds, vs, p, kd, rfl, rfl, fl, l100, sq, ty, ka⟩
    · exact ⟨v, tp, _, _, _, _, rfl, upd_same, .cons (.ty _) (.cons (.ty _) .nil), ty _ sT, ka, _, rfl, iteT (iteT (raised_v TE.ox TE.no rfl ((q2 rfl).same sT)))⟩
    · refine ⟨_, tp, _, _, _, _, rfl, upd_same, .cons (.ty _) (.cons (.ty _) .nil), ty _ sT, ka, _, rfl, iteF ?_⟩
      have bad : ∀ G, okZ n lo hi (some ds) = false → Same H G → Rais C (.ref p) G E := fun G e s => (q2 e).same s
      refine ⟨_, rfl, _, rfl, p, vs, rfl, sq _ sT, _, _, rfl, rfl, _, rfl, ?_⟩
      have ln := fl.len
      refine ite2 (fun e1 => ⟨_, rfl, _, _, rfl, rfl, _, rfl, ?_⟩) fun e1 => ⟨_, rfl, ?_⟩
      · have e1 : lo ≤ (vs.length : Int) := of_decide_eq_true e1
        refine ite2 (fun e2 => ?_) fun e2 => ?_
        · have e2 : ¬ (vs.length : Int) ≤ hi := by simpa using e2
          exact raised_v TE.ox TE.no rfl (bad _ (by
            show (sized lo hi ds && _) = false
            unfold sized
            rw [← ln, decide_eq_false e2, Bool.and_false, Bool.false_and]) sT)
        · have e2 : (vs.length : Int) ≤ hi := by simpa using e2
          have sz : sized lo hi ds = true := by
            unfold sized
            rw [← ln, decide_eq_true e1, decide_eq_true e2]
            rfl
          obtain ⟨vs', J, hw, wk, fl'⟩ := hwi ds rfl
          refine hw _ _ _ rfl sT fun D hD => ?_
          have fD : H D = none := sT.free hD
          refine walk_core wk (fun i G => Same H G ∧ G D = some (.lst (((ds.take i).map fun d => within d 0 ((n : Int) - 1)).map V.bl))) ⟨sT.trans (same_up hD), upd_same⟩ (fun _ _ _ h => h.1) ?_ ?_
          · rintro i y G G' hi ⟨s1, hD1⟩ ⟨rfl, hy⟩
            obtain ⟨d, hd, fd⟩ := fl'.at hy
            refine ⟨rfl, _, rfl, _, rfl, _, _, rfl, rfl, _, d, 0, (n : Int) - 1, rfl, fd, ?_⟩
            refine ⟨_, hD1, ?_, fun b o hb => ?_, ?_⟩
            · rw [List.length_map, List.length_map, List.length_take]
              exact small1000 (by omega)
            · rw [upd_ne (ne_of_none hb fD)]
              exact s1 b o hb
            · rw [upd_same, take_snoc hd, List.map_append, List.map_append]
              rfl
          · rintro G ⟨s1, hD1⟩
            rw [List.take_length] at hD1
            refine ⟨D, _, rfl, SqL.of hD1, ⟨_, rfl, ?_⟩⟩
            have ea : ((ds.map fun d => within d 0 ((n : Int) - 1)).all id) = ds.all fun d => within d 0 ((n : Int) - 1) := by
              rw [List.all_map]
              rfl
            rw [ea]
            refine ite2 (fun e3 => ?_) fun e3 => ?_
            · refine raised_v TE.ox TE.no rfl (bad _ ?_ s1)
              show (sized lo hi ds && _) = false
              rw [sz, Bool.true_and]
              simpa using e3
            · refine q1 ?_ _ s1
              show (sized lo hi ds && _) = true
              rw [sz, Bool.true_and]
              simpa using e3
      · have e1 : ¬ lo ≤ (vs.length : Int) := fun z => e1 (decide_eq_true z)
        exact iteT (raised_v TE.ox TE.no rfl (bad _ (by
            show (sized lo hi ds && _) = false
            unfold sized
            rw [← ln, decide_eq_false e1, Bool.false_and, Bool.false_and]) sT))
end
end Pl

namespace Pl
open L2 PySem PySem.Spec PyProof.Rows
/-- pages and begins are checked -/
def CkB (K : PySem.W.Frag) (CN CP : Addr) (v1 v2 : V) (H : Hp) (E : XK) (g : Nat → Prop) : Prop :=
  ∃ d1, Ck CN v1 d1 1 6 H E (∀ n : Nat, v1 = .int n → 1 ≤ n → n ≤ 6 → ∃ o, Lz K H v2 o ∧ (okZ n 1 5 o = true → g n) ∧ (okZ n 1 5 o = false → Rais CP v2 H E))
def spBegins (K : PySem.W.Frag) (CN CP : Addr) : Sp := fun vs H Q E => ∃ v1 v2, vs = [v1, v2] ∧ CkB K CN CP v1 v2 H E fun _ => ∀ H', Same H H' → Q .non H'
def spLeast (K : PySem.W.Frag) (CN CP : Addr) : Sp := fun vs H Q E => ∃ v1 v2 v3, vs = [v1, v2, v3] ∧ CkB K CN CP v1 v2 H E fun n => ∃ d3, Ck CP v3 d3 0 ((n : Int) - 1) H E (∃ (a : Addr) (bs : List Nat) (s : Nat), v2 = .ref a ∧ SqB K H a (nV bs) ∧ bs.length ≤ 5 ∧ v3 = .int s ∧ s < n ∧ ∀ H', Same H H' → Q (optI (least n bs s)) H')
def cntB : PyData → Bool
  | .int i => decide (0 ≤ i)
  | _ => false
def spMost (K : PySem.W.Frag) (CN CP : Addr) : Sp := fun vs H Q E => ∃ v1 v2 v3 v4, vs = [v1, v2, v3, v4] ∧ CkB K CN CP v1 v2 H E fun n => ∃ o, Lz K H v3 o ∧ (okZ n 0 20 o = false → Rais CP v3 H E) ∧
  (okZ n 0 20 o = true → ∃ d4, Fl v4 d4 ∧ (cntB d4 = false → Rais CN v4 H E) ∧ (cntB d4 = true → ∃ (a a3 : Addr) (bs ps : List Nat) (c : Int), v2 = .ref a ∧ SqB K H a (nV bs) ∧ bs.length ≤ 5 ∧ v3 = .ref a3 ∧ SqB K H a3 (nV ps) ∧ ps.length ≤ 20 ∧ (∀ p ∈ ps, p < n) ∧ v4 = .int c ∧ 0 ≤ c ∧
    ∀ H' ms, Same H H' → ms.Perm (somes (ps.map (least n bs))) → ms.Pairwise (· ≤ ·) → Q (.int (greedy ms c : Nat)) H'))
theorem SqB.same {K : PySem.W.Frag} {H G : Hp} {a : Addr} {xs : List V} (h : SqB K H a xs) (s : Same H G) : SqB K G a xs := by
  rcases h with ⟨ys, e, r⟩ | ⟨ys, e, r⟩
  · exact .inl ⟨ys, s _ _ e, r⟩
  · exact .inr ⟨ys, s _ _ e, r⟩
theorem SqB.walk {K : PySem.W.Frag} {H : Hp} {a : Addr} {ns : List Nat} (hB : SqB K H a (nV ns)) {X : Cx} {i : Nat} {x tg : Expr} (hx : PE X x (tVar i)) : ∃ (wi : TI) (J : It), PI X tg x wi ∧ (∀ (σ : L2.St) (G : Hp) R, X.K = K → σ[i]? = some (some (.ref a)) → Same H G → R J G → wi σ G R) ∧ L2.Walk J ns.length (fun G => Same H G) (YAt (nV ns)) := by
  rcases hB with ⟨ys, ha, rfl⟩ | ⟨ys, ha, rfl⟩
  · refine ⟨_, Itl K a, pi_list hx, fun σ G R e hσ sG r => ?_, ?_⟩
    · subst e
      exact ⟨_, hσ, a, rfl, ⟨_, SqL.of (sG _ _ ha)⟩, r⟩
    · have := walk_list (K := K) (a := a) (xs := nV ns)
      rw [nV_len] at this
      exact this.mono (fun G sG => SqL.of (sG _ _ ha)) fun _ _ _ _ _ _ y => y
  · refine ⟨_, Itt K a, pi_tup hx, fun σ G R e hσ sG r => ?_, ?_⟩
    · subst e
      exact ⟨_, hσ, a, rfl, ⟨_, SqT.of (sG _ _ ha)⟩, r⟩
    · have := walk_tup (K := K) (a := a) (xs := nV ns)
      rw [nV_len] at this
      exact this.mono (fun G sG => SqT.of (sG _ _ ha)) fun _ _ _ _ _ _ y => y
theorem within_int {d : PyData} {v : V} {n : Nat} (f : Fl v d) (h : within d 1 6 = true) : ∃ n : Nat, v = .int n ∧ 1 ≤ n ∧ n ≤ 6 := by
  obtain ⟨i, rfl, _, h1, h2⟩ := within_inv f h
  exact ⟨i.toNat, congrArg V.int (by omega), by omega, by omega⟩
abbrev psB : List Str := ["pages", "begins"]
abbrev ps3 : List Str := ["pages", "begins", "page"]
abbrev ps4 : List Str := ["pages", "begins", "places", "count"]
abbrev nM : List Str := ["pages", "begins", "places", "count", "needs", "left", "missed", "need", "page"]
section
variable {P : Program} {K : PySem.W.Frag} {w : World} {base : Heap} {mg : Str → Option Value} {C CN CP : Addr}
theorem scBegins : FnScope psB psB (defScope sCkBegins) := ⟨rfl, rfl, rfl, by decide +kernel, rfl, by decide +kernel, by decide +kernel⟩
theorem ok_begins {f : Addr} {fd : FuncData} (F : Fun K "_check_begins" "_check_begins" sCkBegins f fd) (T : Cst mg) (D1 : DfX P w K mg base 3 "_check_pages" ["pages"] (spPages CN)) (D2 : DfX P w K mg base 3 "_check_listed" psL (spListed K CP)) : FnOk P w K mg base (L2.CX P w) 4 f fd psB (spBegins K CN CP) := by
  obtain ⟨e1, fd1, G1, m1, k1, b1⟩ := D1.ex
  obtain ⟨e2, fd2, G2, m2, k2, b2⟩ := D2.ex
  obtain ⟨t5, hw⟩ := T.walks
  refine F.okX scBegins (fun vs H Q E h => ?_) (fun cdv A outer s0 H vs Q E hr h => ?_)
  · obtain ⟨v1, v2, rfl, _⟩ := h
    rfl
  · obtain ⟨v1, v2, rfl, d1, fl, q1, q2⟩ := h
    refine ⟨_, pss_cons (ps_expr (pe_call (E := E) G1 hr (by rfl) m1 k1 b1 .nil (passes_call (takes_of rfl rfl rfl rfl) fun _ _ _ _ h => h) (pa_cons (pv 0) pa_nil)))
      (pss_one (ps_expr (pe_call (E := E) G2 hr (by rfl) m2 k2 b2 .nil (passes_call (takes_of rfl rfl rfl rfl) fun _ _ _ _ h => h) (pa_cons (pv 0) (pa_cons (pv 1) (pa_cons pe_int (pa_cons (pe_glob (v := .int 5) (by rfl) hw ⟨_, rfl⟩) pa_nil))))))), ?_⟩
    refine ⟨v1, rfl, v1, d1, rfl, fl, fun e => ?_, q2⟩
    obtain ⟨n, rfl, n1, n6⟩ := within_int (n := 0) fl e
    obtain ⟨o, lz, r1, r2⟩ := q1 e n rfl n1 n6
    exact ⟨_, rfl, v2, rfl, n, v2, 1, 5, o, rfl, lz, fun eo H' s => r1 eo H' s, r2⟩
theorem scLeast : FnScope ps3 ps3 (defScope sLeast) := ⟨rfl, rfl, rfl, by decide +kernel, rfl, by decide +kernel, by decide +kernel⟩
theorem ok_least {f : Addr} {fd : FuncData} (F : Fun K "least_moves" "least_moves" sLeast f fd) (D1 : DfX P w K mg base 4 "_check_begins" psB (spBegins K CN CP)) (D2 : DfX P w K mg base 3 "check_page" ["pages", "page"] (spPage CP)) (D3 : Df P w K mg base 1 "_least_moves" ps3 (spLM K)) : FnOk P w K mg base (L2.CX P w) 5 f fd ps3 (spLeast K CN CP) := by
  obtain ⟨e1, fd1, G1, m1, k1, b1⟩ := D1.ex
  obtain ⟨e2, fd2, G2, m2, k2, b2⟩ := D2.ex
  obtain ⟨e3, fd3, G3, m3, k3, b3⟩ := D3.ex
  refine F.okX scLeast (fun vs H Q E h => ?_) (fun cdv A outer s0 H vs Q E hr h => ?_)
  · obtain ⟨v1, v2, v3, rfl, _⟩ := h
    rfl
  · obtain ⟨v1, v2, v3, rfl, d1, fl, q1, q2⟩ := h
    refine ⟨_, pss_cons (ps_expr (pe_call (E := E) G1 hr (by rfl) m1 k1 b1 .nil (passes_call (takes_of rfl rfl rfl rfl) fun _ _ _ _ h => h) (pa_cons (pv 0) (pa_cons (pv 1) pa_nil))))
      (pss_cons (ps_expr (pe_call (E := E) G2 (hr.mono (by decide)) (by rfl) m2 k2 b2 .nil (passes_call (takes_of rfl rfl rfl rfl) fun _ _ _ _ h => h) (pa_cons (pv 0) (pa_cons (pv 2) pa_nil))))
      (pss_one (ps_ret (pe_call G3 (hr.mono (by decide)) (by rfl) m3 k3 b3 .nil pass0 (pa_cons (pv 0) (pa_cons (pv 1) (pa_cons (pv 2) pa_nil))))))), ?_⟩
    refine ⟨v1, rfl, v2, rfl, v1, v2, rfl, d1, fl, fun e n en n1 n6 => ?_, q2⟩
    obtain ⟨o, lz, r1, r2⟩ := q1 e n en n1 n6
    refine ⟨o, lz, fun eo H' s => ?_, r2⟩
    obtain ⟨d3, f3, u1, u2⟩ := r1 eo
    subst en
    refine ⟨_, rfl, v3, rfl, (n : Int), v3, d3, rfl, f3, fun e3 => ?_, fun e3 => (u2 e3).same s⟩
    obtain ⟨a, bs, sN, rfl, sB, l5, rfl, sn, q⟩ := u1 e3
    exact ⟨_, rfl, _, rfl, _, rfl, a, n, sN, bs, rfl, sB.same s, l5, n6, sn, fun H2 s2 => q H2 (s.trans s2)⟩
theorem scMost : FnScope nM ps4 (defScope sMost) := ⟨rfl, rfl, rfl, by decide +kernel, rfl, by decide +kernel, by decide +kernel⟩
theorem ok_most {f : Addr} {fd : FuncData} (F : Fun K "most_missed" "most_missed" sMost f fd) (T : Cst mg) (M : Mak P w K mg base "NoCount" CN) (D0 : Df P w K mg base 1 "is_number" ["value"] spN) (D1 : DfX P w K mg base 4 "_check_begins" psB (spBegins K CN CP)) (D2 : DfX P w K mg base 3 "_check_listed" psL (spListed K CP)) (D3 : Df P w K mg base 1 "_least_moves" ps3 (spLM K)) : FnOk P w K mg base (L2.CX P w) 5 f fd ps4 (spMost K CN CP) := by
  obtain ⟨e0, fd0, G0, m0, k0, b0⟩ := D0.ex
  obtain ⟨e1, fd1, G1, m1, k1, b1⟩ := D1.ex
  obtain ⟨e2, fd2, G2, m2, k2, b2⟩ := D2.ex
  obtain ⟨e3, fd3, G3, m3, k3, b3⟩ := D3.ex
  obtain ⟨t20, hp⟩ := T.places
  obtain ⟨fI, fdI, TE, GI, bI⟩ := M.ex
  refine F.okX scMost (fun vs H Q E h => ?_) (fun cdv A outer s0 H vs Q E hr h => ?_)
  · obtain ⟨v1, v2, v3, v4, rfl, _⟩ := h
    rfl
  · obtain ⟨v1, v2, v3, v4, rfl, d1, fl, q1, q2⟩ := h
    have it : ∃ (wi : TI), PI (cxOf (L2.CX P w) P w K mg base nM "most_missed" (defScope sMost) f cdv A outer s0 H E) (match defBody sMost with
        | [_, _, _, .Assign _ (.ListComp _ [⟨tg, _, _, _⟩] _ _) _, _, _, _, _] => tg
        | _ => .Constant .none 0 ⟨0, 0, 0, 0⟩) (match defBody sMost with
        | [_, _, _, .Assign _ (.ListComp _ [⟨_, it, _, _⟩] _ _) _, _, _, _, _] => it
        | _ => .Constant .none 0 ⟨0, 0, 0, 0⟩) wi ∧ ∀ a ps, v3 = .ref a → SqB K H a (nV ps) → ∃ J, (∀ (σ : L2.St) (G : Hp) R, σ[2]? = some (some v3) → Same H G → R J G → wi σ G R) ∧ L2.Walk J ps.length (fun G => Same H G) (YAt (nV ps)) := by
      by_cases h : ∃ a ps, v3 = .ref a ∧ SqB K H a (nV ps)
      · obtain ⟨a, ps, rfl, hB⟩ := h
        rcases hB with ⟨ys, ha, _⟩ | ⟨ys, ha, _⟩
        · refine ⟨_, pi_list (pv 2), fun a' ps' e hB => ?_⟩
          cases e
          rcases hB with ⟨zs, ha', rfl⟩ | ⟨zs, ha', rfl⟩
          · refine ⟨Itl K a, fun σ G R hσ sG r => ⟨_, hσ, a, rfl, ⟨_, SqL.of (sG _ _ ha')⟩, r⟩, ?_⟩
            have := walk_list (K := K) (a := a) (xs := nV ps')
            rw [nV_len] at this
            exact this.mono (fun G sG => SqL.of (sG _ _ ha')) fun _ _ _ _ _ _ y => y
          · rw [ha] at ha'
            cases ha'
        · refine ⟨_, pi_tup (pv 2), fun a' ps' e hB => ?_⟩
          cases e
          rcases hB with ⟨zs, ha', rfl⟩ | ⟨zs, ha', rfl⟩
          · rw [ha] at ha'
            cases ha'
          · refine ⟨Itt K a, fun σ G R hσ sG r => ⟨_, hσ, a, rfl, ⟨_, SqT.of (sG _ _ ha')⟩, r⟩, ?_⟩
            have := walk_tup (K := K) (a := a) (xs := nV ps')
            rw [nV_len] at this
            exact this.mono (fun G sG => SqT.of (sG _ _ ha')) fun _ _ _ _ _ _ y => y
      · exact ⟨_, pi_list (pv 2), fun a ps e hB => absurd ⟨a, ps, e, hB⟩ h⟩
    obtain ⟨wi, hit, hwi⟩ := it
    refine ⟨_, pss_cons (ps_expr (pe_call (E := E) G1 hr (by rfl) m1 k1 b1 .nil (passes_call (takes_of rfl rfl rfl rfl) fun _ _ _ _ h => h) (pa_cons (pv 0) (pa_cons (pv 1) pa_nil))))
      (pss_cons (ps_expr (pe_call (E := E) G2 (hr.mono (by decide)) (by rfl) m2 k2 b2 .nil (passes_call (takes_of rfl rfl rfl rfl) fun _ _ _ _ h => h) (pa_cons (pv 0) (pa_cons (pv 2) (pa_cons pe_int (pa_cons (pe_glob (v := .int 20) (by rfl) hp ⟨_, rfl⟩) pa_nil))))))
      (pss_cons (ps_if (PW.pt (pw_or (pt_not (pt_val (pe_call G0 (hr.mono (by decide)) (by rfl) m0 k0 b0 .nil pass0 (pa_cons (pv 3) pa_nil)))) (pw_or1 (pt_cmpR op_lt (pv 3) pe_int (nomark _)))))
        (pss_one (ps_raise rfl (takes_of rfl rfl rfl rfl) (pmk_oex TE.ox TE.iC TE.tI GI (hr.mono (by decide)) bI .nil pass0 (by rfl) TE.gC (pa_cons (pv 3) pa_nil)))) pss_nil)
      (pss_cons (ps_setLc (i := 4) (own := [("page", 8)]) (g := gName 8) (tt := tYes) rfl scMost.nd rfl rfl (sw_true rfl rfl rfl (by decide +kernel)) hit (blkOk_by (own := [("page", 8)]) (N := nM) (sc := defScope sMost) (by decide +kernel))
        (fun _ _ _ _ _ => pg_name (i := 8) scMost.nd rfl (Or.inl rfl)) (fun _ _ _ _ _ => pts_nil) (fun _ _ _ _ _ => pe_call G3 (hr.mono (by decide)) (by rfl) m3 k3 b3 .nil pass0 (pa_cons (pv 0) (pa_cons (pv 1) (pa_cons (pv 8) pa_nil)))))
      (pss_cons (ps_set (i := 5) scMost.nd rfl (Or.inl rfl) (pv 3))
      (pss_cons (ps_set (i := 6) scMost.nd rfl (Or.inl rfl) pe_int)
      (pss_cons (ps_for (passes_of rfl) rfl (pi_list (pe_callB cr_sorted (by rfl) T.srt (by decide +kernel) (pa_cons (pe_lc (own := [("need", 7)]) (g := gName 7) (tt := _) rfl scMost.nd (pi_list (pv 4)) (blkOk_by (own := [("need", 7)]) (N := nM) (sc := defScope sMost) (by decide +kernel))
          (fun _ _ _ _ _ => pg_name (i := 7) scMost.nd rfl (Or.inl rfl)) (fun _ _ _ _ _ => pts_one (pt_cmpR op_notN (pv 7) pe_non (nomark _))) (fun _ _ _ _ _ => pv 7)) pa_nil))) (pg_name (i := 7) scMost.nd rfl (Or.inl rfl))
        (pss_one (ps_if (pt_cmpR op_le (pv 7) (pv 5) (nomark _)) (pss_cons (ps_aug (i := 5) scMost.nd rfl (Or.inl rfl) (pv 7) ip_sub) (pss_one (ps_aug (i := 6) scMost.nd rfl (Or.inl rfl) pe_int ip_add))) pss_nil)))
      (pss_one (ps_ret (pv 6))))))))), ?_⟩
    refine ⟨v1, rfl, v2, rfl, v1, v2, rfl, d1, fl, fun e n en n1 n6 => ?_, q2⟩
    obtain ⟨o, lz, r1, r2⟩ := q1 e n en n1 n6
    refine ⟨o, lz, fun eo H1 s1 => ?_, r2⟩
    obtain ⟨o3, lz3, u1, u2⟩ := r1 eo
    subst en
    refine ⟨_, rfl, v3, rfl, n, v3, 0, 20, o3, rfl, lz3.same s1, fun eo3 H2 s2 => ?_, fun e3 => (u1 e3).same s1⟩
    obtain ⟨d4, f4, w1, w2⟩ := u2 eo3
    have s12 := s1.trans s2
    refine ⟨v4, rfl, v4, d4, rfl, f4, ⟨_, rfl, ?_⟩⟩
    by_cases hn : isNum d4 = true
    case neg =>
      have hn : isNum d4 = false := by simpa using hn
      rw [hn]
      refine iteT (iteT (raised_v TE.ox TE.no rfl ((w1 ?_).same s12)))
      cases f4 <;> first | rfl | cases hn
    rw [hn]
    refine iteF ?_
    cases f4 with
    | non => cases hn
    | bl b => cases hn
    | str x => cases hn
    | int c =>
    refine ⟨_, rfl, _, _, rfl, rfl, _, rfl, ?_⟩; skip
    refine ite2 (fun e0 => ?_) fun e0 => ?_
    · have : c < 0 := of_decide_eq_true e0
      exact raised_v TE.ox TE.no rfl ((w1 (decide_eq_false (by omega))).same s12)
    have c0 : ¬ c < 0 := fun z => e0 (decide_eq_true z)
    obtain ⟨a, a3, bs, ps, c', rfl, sB, l5, rfl, sP, l20, plt, ec, _, q⟩ := w2 (decide_eq_true (by omega))
    cases ec
    obtain ⟨J, hJ, wk⟩ := hwi a3 ps rfl sP
    refine hJ _ _ _ rfl s12 fun D hD => ?_
    have fD : H D = none := s12.free hD
    refine walk_core wk (fun i G => Same H G ∧ G D = some (.lst ((ps.take i).map fun p => optI (least n bs p)))) ⟨s12.trans (same_up hD), upd_same⟩ (fun _ _ _ h => h.1) ?_ ?_
    · rintro i y G G' hi ⟨s3, hD3⟩ ⟨rfl, hx⟩
      obtain ⟨p, hp, rfl⟩ := nV_get hx
      refine ⟨rfl, _, rfl, _, rfl, _, rfl, a, n, p, bs, rfl, sB.same s3, l5, n6, plt p (List.mem_of_getElem? hp), fun G2 s4 => ?_⟩
      refine ⟨_, s4 _ _ hD3, ?_, fun b o hb => ?_, ?_⟩
      · rw [List.length_map, List.length_take]; skip
        exact small1000 (by omega)
      · rw [upd_ne (ne_of_none hb fD)]
        exact (s3.trans s4) b o hb
      · rw [upd_same, take_snoc hp, List.map_append]
        rfl
    rintro G ⟨s3, hD3⟩
    rw [List.take_length] at hD3
    have hD4 : G D = some (.lst ((ps.map (least n bs)).map optI)) := by
      rw [List.map_map]
      exact hD3
    have lcs : (ps.map (least n bs)).length = ps.length := List.length_map _
    generalize hcs : ps.map (least n bs) = cs at hD4 lcs q
    refine ⟨_, rfl, _, rfl, D, rfl, ⟨_, SqL.of hD4⟩, fun D2 hD2 => ?_⟩
    have DD2 : D ≠ D2 := ne_of_none hD4 hD2
    have fD2 : H D2 = none := s3.free hD2
    have slen : ∀ cs : Cs, (somes cs).length ≤ cs.length := fun cs => by
      induction cs with
      | nil => exact Nat.le_refl _
      | cons c cs ih =>
        cases c with
        | none => exact Nat.le_succ_of_le ih
        | some x => exact Nat.succ_le_succ ih
    have ssn : ∀ (cs : Cs) (c : Option Int), somes (cs ++ [c]) = somes cs ++ somes [c] := fun cs c => by
      induction cs with
      | nil => rfl
      | cons d cs ih =>
        cases d with
        | none => exact ih
        | some x => rw [List.cons_append, somes, ih, somes, List.cons_append]
    refine walk_core (walk_list (K := K) (a := D) (xs := cs.map optI)) (fun j F => Same H F ∧ F D = some (.lst (cs.map optI)) ∧ F D2 = some (.lst ((somes (cs.take j)).map V.int))) ⟨s3.trans (same_up hD2), (upd_ne DD2).trans hD4, upd_same⟩ (fun _ _ _ h => SqL.of h.2.1) ?_ ?_
    · rintro j y F F' hj ⟨s4, h1, h2⟩ ⟨rfl, hy⟩
      rw [List.getElem?_map] at hy
      obtain ⟨co, hc, rfl⟩ := Option.map_eq_some_iff.mp hy
      refine ⟨rfl, _, rfl, rfl, _, rfl, ?_⟩
      cases co with
      | none =>
        refine iteF ⟨s4, h1, ?_⟩
        rw [take_snoc hc, ssn]
        show _ = some (HO.lst ((somes (cs.take j) ++ []).map V.int))
        rw [List.append_nil]
        exact h2
      | some x =>
        refine iteT ⟨_, rfl, _, h2, ?_, fun b o hb => ?_, (upd_ne DD2).trans h1, ?_⟩
        · have := slen (cs.take j)
          rw [List.length_take] at this
          rw [List.length_map]
          exact small1000 (by omega)
        · rw [upd_ne (ne_of_none hb fD2)]
          exact s4 b o hb
        · rw [upd_same, take_snoc hc, ssn, List.map_append]
          rfl
    rintro F ⟨s4, h1, h2⟩
    rw [List.length_map, List.take_length] at h2
    have lss := slen cs
    refine ⟨D2, somes cs, rfl, SqL.of h2, by omega, fun ms l pm so hl => ⟨l, rfl, ⟨_, SqL.of upd_same⟩, ?_⟩⟩
    have sl : Same F (upd F l (.lst (ms.map V.int))) := same_up hl
    refine for_list (K := K) (a := l) (xs := ms.map V.int) (fun j σ G => ∃ lf k x7, σ = [some (.int n), some (.ref a), some (.ref a3), some (.int c), some (.ref D), some (.int lf), some (.int (k : Nat)), x7, none] ∧ G = upd F l (.lst (ms.map V.int)) ∧ k + greedy (ms.drop j) lf = greedy ms c)
      ⟨c, 0, _, rfl, rfl, by rw [List.drop_zero, Nat.zero_add]⟩ (fun j σ G _ h => by
        obtain ⟨_, _, _, _, rfl, _⟩ := h
        exact SqL.of upd_same) ?_ ?_
    · rintro j y σ G hy ⟨lf, k, x7, rfl, rfl, hg⟩
      rw [List.getElem?_map] at hy
      obtain ⟨x, hx, rfl⟩ := Option.map_eq_some_iff.mp hy
      have ed : ms.drop j = x :: ms.drop (j + 1) := by
        obtain ⟨lt, e⟩ := List.getElem?_eq_some_iff.mp hx
        rw [← e]
        exact List.drop_eq_getElem_cons lt
      rw [ed, greedy] at hg
      refine ⟨_, rfl, _, rfl, _, _, rfl, rfl, _, rfl, ?_⟩; skip
      refine ite2 (fun e5 => ?_) fun e5 => ?_
      · rw [if_pos (of_decide_eq_true e5)] at hg
        exact ⟨_, rfl, _, rfl, _, _, rfl, rfl, _, rfl, _, _, rfl, rfl, lf - x, k + 1, _, rfl, rfl, by omega⟩
      · rw [if_neg fun z => e5 (decide_eq_true z)] at hg
        exact ⟨lf, k, _, rfl, rfl, hg⟩
    · rintro σ G ⟨lf, k, x7, rfl, rfl, hg⟩
      rw [List.length_map, List.drop_length, greedy, Nat.add_zero] at hg
      subst hg
      exact ⟨_, rfl, q _ ms (s4.trans sl) pm so⟩
end
end Pl

namespace Pl
open L2 PySem PySem.Spec PyProof.Rows
/-- the source of draws stands at z -/
def Src (z : Addr) (H : Hp) : Prop := ∃ x y : Int, H z = some (.lst [.int x, .int y]) ∧ 0 ≤ x ∧ 0 ≤ y ∧ y < 2147483647
theorem Src.some {z : Addr} {H : Hp} (h : Src z H) : ∃ o, H z = some o := let ⟨x, y, e, _⟩ := h; ⟨_, e⟩
def spPool (K : PySem.W.Frag) : Sp := fun vs H Q _ => ∃ (a : Addr) (ns : List Int) (k : Int), vs = [.ref a, .int k] ∧ SqL K H a (ns.map V.int) ∧ 0 ≤ k ∧ k ≤ 10 ∧ ∀ p H', H p = none → Same H H' → Src p H' → Q (.ref p) H'
def spTake : Sp := fun vs H Q _ => ∃ (z : Addr) (t : Int), vs = [.ref z, .int t] ∧ Src z H ∧ 0 < t ∧ t ≤ 1000 ∧ ∀ (r : Int) (H' : Hp), 0 ≤ r → r < t → But z H H' → Src z H' → Q (.int r) H'
section
variable {P : Program} {K : PySem.W.Frag} {w : World} {base : Heap} {mg : Str → Option Value}
theorem scPool : FnScope ["_law_script", "_law_k", "_law_cell", "_law_big", "_law_mixed"] ["_law_script", "_law_k"] (defScope sPool) := ⟨rfl, rfl, rfl, by decide +kernel, rfl, by decide +kernel, by decide +kernel⟩
theorem ok_pool {f : Addr} {fd : FuncData} (F : Fun K "_law_pool" "_law_pool" sPool f fd) (T : Cst mg) : FnOk P w K mg base CX0 1 f fd ["_law_script", "_law_k"] (spPool K) := by
  refine F.ok scPool (fun vs H Q E h => ?_) (fun cdv A outer s H vs Q E hr h => ?_)
  · obtain ⟨a, ns, k, rfl, _⟩ := h; skip
    rfl
  · obtain ⟨a, ns, k, rfl, hS, k0, k1, q⟩ := h
    refine ⟨_, pss_cons (ps_set (i := 2) scPool.nd rfl (Or.inl rfl) pe_int)
      (pss_cons (ps_if (pt_cmpR op_lt (pv 1) (pe_callB call_len_seq (by rfl) T.len PySem.boot_len (pa_cons (pv 0) pa_nil)) (nomark _))
        (pss_one (ps_set (i := 2) scPool.nd rfl (Or.inl rfl) (pe_ix ix_list (pv 0) (pv 1) (fun _ _ => rfl)))) pss_nil)
      (pss_cons (ps_set (i := 3) scPool.nd rfl (Or.inl rfl) (pe_callB (call_max2 rfl) (by rfl) T.max_ (by decide +kernel) (pa_cons (pe_callTy call_int1 (by rfl) T.tint (by decide +kernel) (pa_cons (pv 2) pa_nil))
        (pa_cons (pe_callTy call_int1 (by rfl) T.tint (by decide +kernel) (pa_cons (pe_op op_sub (pe_un un_neg pe_int) (pv 2)) pa_nil)) pa_nil))))
      (pss_cons (ps_set (i := 4) scPool.nd rfl (Or.inl rfl) (pe_op op_mod (pe_callTy call_int1 (by rfl) T.tint (by decide +kernel) (pa_cons
          (pe_op op_mul (pe_op op_add (pe_op op_add (pe_op op_add (pe_op op_mod (pe_callTy call_int1 (by rfl) T.tint (by decide +kernel) (pa_cons (pv 3) pa_nil)) pe_int) (pe_op op_mul (pe_op op_mul pe_int (pv 1)) (pv 1))) (pe_op op_mul pe_int (pv 1))) pe_int) pe_int) pa_nil)) pe_int))
      (pss_one (ps_ret (pe_lst (pa_cons (pe_op op_mul (pv 3) (pe_callTy call_int1 (by rfl) T.tint (by decide +kernel) (pa_cons (pe_cmpR op_ge (pv 3) (pe_op op_pow pe_int pe_int) (nomark _)) pa_nil))) (pa_cons (pv 4) pa_nil)))))))), ?_⟩
    have hbig : ∀ c : Int, 0 ≤ (if (-1 - c) > c then (-1 - c) else c) := fun c => by
      split <;> omega
    have fin : ∀ (b : Int) (p : Addr) (G : Hp), 0 ≤ b → H p = none → Same H G → G p = some (.lst [.int (b * (if decide (b ≥ 10 ^ 18) = true then 1 else 0)), .int (((b % 2147483629 + 7919 * k * k + 31 * k + 17) * 48271) % 2147483647)]) → Q (.ref p) G := fun b p G hb hp sG hG => by
      refine q p G hp sG ⟨_, _, hG, ?_, Int.emod_nonneg _ (by decide), Int.emod_lt_of_pos _ (by decide)⟩
      refine Int.mul_nonneg hb ?_
      split <;> decide
    have bnd : ∀ b : Int, 0 ≤ b % 2147483629 ∧ b % 2147483629 < 2147483629 := fun b => ⟨Int.emod_nonneg _ (by decide), Int.emod_lt_of_pos _ (by decide)⟩
    have kk : 0 ≤ 7919 * k ∧ 7919 * k ≤ 79190 := ⟨by omega, by omega⟩
    have kk2 : 0 ≤ 7919 * k * k ∧ 7919 * k * k ≤ 791900 := ⟨Int.mul_nonneg kk.1 k0, by
      have := Int.mul_le_mul kk.2 k1 k0 (by omega)
      omega⟩
    refine ⟨_, rfl, _, rfl, a, _, rfl, .inl hS, _, _, rfl, rfl, _, rfl, ?_⟩; skip
    refine ite2 (fun e => ?_) fun e => ?_
    · obtain ⟨j, rfl⟩ : ∃ j : Nat, k = j := ⟨k.toNat, by omega⟩
      have hj : j < ns.length := by
        have := of_decide_eq_true e
        rw [List.length_map] at this
        omega
      refine ⟨_, rfl, _, rfl, a, _, _, .int ns[j], rfl, rfl, hS, atI_nat (by rw [List.getElem?_map, List.getElem?_eq_getElem hj]; rfl), ?_⟩
      refine ⟨_, rfl, .inl ⟨_, rfl, ?_⟩⟩
      refine ⟨_, rfl, _, rfl, _, _, rfl, rfl, .inl ⟨_, rfl, ?_⟩⟩
      refine ⟨_, _, rfl, ?_⟩
      have hb := hbig (ns[j])
      revert hb
      generalize (if (-1 - ns[j]) > ns[j] then (-1 - ns[j]) else ns[j]) = b
      intro hb
      have h1 := bnd b
      refine ⟨_, rfl, .inl ⟨_, rfl, _, _, rfl, rfl, (by show (0 : Int) < 2147483629; decide), ?_⟩⟩
      refine ⟨_, rfl, _, _, rfl, rfl, .inl ⟨by decide, by decide⟩, _, rfl, _, _, rfl, rfl, .inl ⟨by omega, by omega⟩, ?_⟩
      refine ⟨_, _, rfl, rfl, _, rfl, _, _, rfl, rfl, .inl ⟨by decide, by decide⟩, _, _, rfl, rfl, _, _, rfl, rfl, ?_⟩
      refine ⟨_, _, rfl, rfl, .inl ⟨by omega, by omega⟩, .inl ⟨_, rfl, _, _, rfl, rfl, (by show (0 : Int) < 2147483647; decide), ?_⟩⟩
      refine ⟨_, rfl, _, rfl, _, _, rfl, rfl, ⟨by decide, by decide, by decide⟩, _, _, rfl, rfl, .inr ⟨_, rfl, _, _, rfl, rfl, .inr ⟨?_, ?_⟩, _, rfl, (by show 2 ≤ sizeLine; decide), fun p hp => fin b p _ hb hp (same_new hp) upd_same⟩⟩
      · split <;> decide
      · split <;> decide
    · refine ⟨_, rfl, .inl ⟨_, rfl, ?_⟩⟩
      refine ⟨_, rfl, _, rfl, _, _, rfl, rfl, .inl ⟨_, rfl, ?_⟩⟩
      refine ⟨_, _, rfl, ?_⟩
      have hb := hbig (0)
      revert hb
      generalize (if (-1 - 0) > 0 then (-1 - 0) else 0) = b
      intro hb
      have h1 := bnd b
      refine ⟨_, rfl, .inl ⟨_, rfl, _, _, rfl, rfl, (by show (0 : Int) < 2147483629; decide), ?_⟩⟩
      refine ⟨_, rfl, _, _, rfl, rfl, .inl ⟨by decide, by decide⟩, _, rfl, _, _, rfl, rfl, .inl ⟨by omega, by omega⟩, ?_⟩
      refine ⟨_, _, rfl, rfl, _, rfl, _, _, rfl, rfl, .inl ⟨by decide, by decide⟩, _, _, rfl, rfl, _, _, rfl, rfl, ?_⟩
      refine ⟨_, _, rfl, rfl, .inl ⟨by omega, by omega⟩, .inl ⟨_, rfl, _, _, rfl, rfl, (by show (0 : Int) < 2147483647; decide), ?_⟩⟩
      refine ⟨_, rfl, _, rfl, _, _, rfl, rfl, ⟨by decide, by decide, by decide⟩, _, _, rfl, rfl, .inr ⟨_, rfl, _, _, rfl, rfl, .inr ⟨?_, ?_⟩, _, rfl, (by show 2 ≤ sizeLine; decide), fun p hp => fin b p _ hb hp (same_new hp) upd_same⟩⟩
      · split <;> decide
      · split <;> decide
theorem scTake : FnScope ["_law_source", "_law_top", "_law_told"] ["_law_source", "_law_top"] (defScope sTake) := ⟨rfl, rfl, rfl, by decide +kernel, rfl, by decide +kernel, by decide +kernel⟩
theorem ok_take {f : Addr} {fd : FuncData} (F : Fun K "_law_take" "_law_take" sTake f fd) (T : Cst mg) : FnOk P w K mg base CX0 1 f fd ["_law_source", "_law_top"] spTake := by
  refine F.ok scTake (fun vs H Q E h => ?_) (fun cdv A outer s H vs Q E hr h => ?_)
  · obtain ⟨z, t, rfl, _⟩ := h
    rfl
  · obtain ⟨z, t, rfl, ⟨x, y, hz, x0, y0, y1⟩, t0, t1, q⟩ := h
    refine ⟨_, pss_cons (ps_if (pt_cmpR op_gt (pe_ix ix_list (pv 0) pe_int (fun _ _ => rfl)) pe_int (nomark _))
        (pss_cons (ps_set (i := 2) scTake.nd rfl (Or.inl rfl) (pe_op op_mod (pe_callTy call_int1 (by rfl) T.tint (by decide +kernel) (pa_cons (pe_ix ix_list (pv 0) pe_int (fun _ _ => rfl)) pa_nil)) (pv 1)))
        (pss_cons (ps_asg (pe_op op_fdiv (pe_ix ix_list (pv 0) pe_int (fun _ _ => rfl)) (pv 1)) (pg_sub (pv 0) pe_int L2.set_list))
        (pss_one (ps_ret (pv 2))))) pss_nil)
      (pss_cons (ps_asg (pe_op op_mod (pe_callTy call_int1 (by rfl) T.tint (by decide +kernel) (pa_cons (pe_op op_add (pe_op op_mul (pe_ix ix_list (pv 0) pe_int (fun _ _ => rfl)) pe_int) pe_int) pa_nil)) pe_int) (pg_sub (pv 0) pe_int L2.set_list))
      (pss_one (ps_ret (pe_op op_mod (pe_callTy call_int1 (by rfl) T.tint (by decide +kernel) (pa_cons (pe_op op_fdiv (pe_op op_mod (pe_callTy call_int1 (by rfl) T.tint (by decide +kernel) (pa_cons (pe_op op_mul (pe_ix ix_list (pv 0) pe_int (fun _ _ => rfl)) (pe_ix ix_list (pv 0) pe_int (fun _ _ => rfl))) pa_nil)) pe_int) pe_int) pa_nil)) (pv 1))))), ?_⟩
    refine ⟨_, rfl, z, _, _, .int x, rfl, rfl, SqL.of hz, atI_nat (j := 0) rfl, _, _, rfl, rfl, _, rfl, ?_⟩
    refine ite2 (fun e => ?_) fun e => ?_
    · refine ⟨_, rfl, z, _, _, .int x, rfl, rfl, SqL.of hz, atI_nat (j := 0) rfl, .inl ⟨_, rfl, _, rfl, _, _, rfl, rfl, t0, ?_⟩⟩
      refine ⟨_, rfl, z, _, _, .int x, rfl, rfl, SqL.of hz, atI_nat (j := 0) rfl, _, rfl, _, _, rfl, rfl, ⟨t0, by omega⟩, ?_⟩
      refine ⟨_, rfl, z, _, _, 0, rfl, rfl, hz, rfl, _, rfl, ?_⟩
      exact q _ _ (Int.emod_nonneg _ (by omega)) (Int.emod_lt_of_pos _ t0) But.upd ⟨_, _, upd_same, Int.ediv_nonneg x0 (by omega), y0, y1⟩
    · refine ⟨_, rfl, z, _, _, .int y, rfl, rfl, SqL.of hz, atI_nat (j := 1) rfl, _, _, rfl, rfl, .inl ⟨by omega, by omega⟩, _, _, rfl, rfl, .inl ⟨_, rfl, _, _, rfl, rfl, (by show (0 : Int) < 2147483647; decide), ?_⟩⟩
      have h2 : 0 ≤ (y * 39373 + 7) % 2147483647 ∧ (y * 39373 + 7) % 2147483647 < 2147483647 := ⟨Int.emod_nonneg _ (by decide), Int.emod_lt_of_pos _ (by decide)⟩
      refine ⟨_, rfl, z, _, _, 1, rfl, rfl, hz, rfl, ?_⟩
      have hz2 : upd H z (.lst ([V.int x, V.int y].set 1 (V.int ((y * 39373 + 7) % 2147483647)))) z = some (.lst [.int x, .int ((y * 39373 + 7) % 2147483647)]) := upd_same
      refine ⟨_, rfl, z, _, _, .int ((y * 39373 + 7) % 2147483647), rfl, rfl, SqL.of hz2, atI_nat (j := 1) rfl, _, rfl, z, _, _, .int ((y * 39373 + 7) % 2147483647), rfl, rfl, SqL.of hz2, atI_nat (j := 1) rfl, _, _, rfl, rfl, .inl ⟨by omega, by omega⟩, .inl ⟨_, rfl, _, _, rfl, rfl, (by show (0 : Int) < 2147483629; decide), ?_⟩⟩
      refine ⟨_, _, rfl, rfl, ⟨by decide, by decide⟩, .inl ⟨_, rfl, _, rfl, _, _, rfl, rfl, t0, ?_⟩⟩
      exact q _ _ (Int.emod_nonneg _ (by omega)) (Int.emod_lt_of_pos _ t0) But.upd ⟨_, _, hz2, x0, h2.1, h2.2⟩
/-- a draw of this text, as its callers see it -/
abbrev DTake (P : Program) (w : World) (K : PySem.W.Frag) (mg : Str → Option Value) (base : Heap) := Df P w K mg base 1 "_law_take" ["_law_source", "_law_top"] spTake
end
/-! ### pairs -/
def PrA (H : Hp) (v : V) (p : Int × Int) : Prop := ∃ a, v = .ref a ∧ H a = some (.tup [.int p.1, .int p.2])
inductive PrL (H : Hp) : List V → List (Int × Int) → Prop
  | nil : PrL H [] []
  | cons {v : V} {p : Int × Int} {vs : List V} {ps : List (Int × Int)} (a : PrA H v p) (t : PrL H vs ps) : PrL H (v :: vs) (p :: ps)
theorem PrA.same {H G : Hp} {v : V} {p : Int × Int} (h : PrA H v p) (s : Same H G) : PrA G v p := by
  obtain ⟨a, e, ha⟩ := h
  exact ⟨a, e, s _ _ ha⟩
theorem PrL.same {H G : Hp} (s : Same H G) : ∀ {vs : List V} {ps : List (Int × Int)}, PrL H vs ps → PrL G vs ps
  | _, _, .nil => .nil
  | _, _, .cons a t => .cons (a.same s) (t.same s)
theorem PrL.len {H : Hp} : ∀ {vs : List V} {ps : List (Int × Int)}, PrL H vs ps → vs.length = ps.length
  | _, _, .nil => rfl
  | _, _, .cons _ t => congrArg Nat.succ t.len
theorem PrL.at {H : Hp} : ∀ {vs : List V} {ps : List (Int × Int)} {i : Nat} {v : V}, PrL H vs ps → vs[i]? = some v → ∃ p, ps[i]? = some p ∧ PrA H v p
  | _, _, _, _, .nil, e => absurd e (by simp)
  | _, _, 0, _, .cons a _, e => by simp at e; subst e; exact ⟨_, rfl, a⟩
  | _, _, i + 1, _, .cons _ t, e => by
    obtain ⟨m, h1, h2⟩ := PrL.at (i := i) t (by simpa using e)
    exact ⟨m, by simpa using h1, h2⟩
theorem PrL.app {H : Hp} : ∀ {vs ws : List V} {ps qs : List (Int × Int)}, PrL H vs ps → PrL H ws qs → PrL H (vs ++ ws) (ps ++ qs)
  | _, _, _, _, .nil, h => h
  | _, _, _, _, .cons a t, h => .cons a (t.app h)
end Pl

namespace Pl
open L2 PySem PySem.Spec PyProof.Rows
theorem noPart {σ : L2.St} {H : Hp} {Q : Option Int → Hp → Prop} (h : Q none H) : tNoPart σ H Q := h
def optL (cs : Cs) : List V := cs.map optI
theorem optL_len (cs : Cs) : (optL cs).length = cs.length := List.length_map _
theorem optL_get {cs : Cs} {i : Nat} {y : V} (h : (optL cs)[i]? = some y) : ∃ c, cs[i]? = some c ∧ y = optI c := by
  unfold optL at h
  rw [List.getElem?_map] at h
  obtain ⟨c, hc, e⟩ := Option.map_eq_some_iff.mp h
  exact ⟨c, hc, e.symm⟩
theorem optL_snoc (cs : Cs) (c : Option Int) : optL (cs ++ [c]) = optL cs ++ [optI c] := by
  unfold optL
  rw [List.map_append]
  rfl
theorem somes_len : ∀ cs : Cs, (somes cs).length ≤ cs.length
  | [] => Nat.le_refl _
  | none :: cs => Nat.le_succ_of_le (somes_len cs)
  | some _ :: cs => Nat.succ_le_succ (somes_len cs)
theorem somes_app (ds : Cs) : ∀ cs : Cs, somes (cs ++ ds) = somes cs ++ somes ds
  | [] => rfl
  | none :: cs => somes_app ds cs
  | some x :: cs => by rw [List.cons_append, somes, somes_app ds cs, somes, List.cons_append]
theorem cut_left {L : List V} {k : Nat} (h : k ≤ L.length) : cutV L none (some (k : Int)) = L.take k := by
  unfold cutV
  rw [HT.sIx_none, HT.sIx_nat, List.drop_zero, Nat.sub_zero, Nat.min_eq_left h]
theorem cut_right {L : List V} {k : Nat} (h : k ≤ L.length) : cutV L (some (k : Int)) none = L.drop k := by
  unfold cutV
  rw [HT.sIx_none, HT.sIx_nat, Nat.min_eq_left h]
  exact List.take_of_length_le (by rw [List.length_drop]; exact Nat.le_refl _)
theorem kill_cut {cs : Cs} {k : Nat} (h : k < cs.length) : (optL cs).take k ++ [V.non] ++ (optL cs).drop (k + 1) = optL (kill cs k) := by
  unfold kill optL
  rw [List.set_eq_take_append_cons_drop, if_pos h, List.map_append, List.map_cons, ← List.map_take, ← List.map_drop, List.append_assoc]
  rfl
def spSpread : Sp := fun vs H Q _ => ∃ (a : Addr) (cs : Cs), vs = [.ref a] ∧ H a = some (.lst (optL cs)) ∧ cs.length ≤ 6 ∧ (∀ x, some x ∈ cs → x ≤ 100) ∧ ∀ p H', Same H H' → H' p = some (.lst (optL (sprd cs))) → Q (.ref p) H'
abbrev nS : List Str := ["_law_costs", "_law_least_here", "_law_cost"]
section
variable {P : Program} {K : PySem.W.Frag} {w : World} {base : Heap} {mg : Str → Option Value}
theorem scSpread : FnScope nS ["_law_costs"] (defScope sSpread) := ⟨rfl, rfl, rfl, by decide +kernel, rfl, by decide +kernel, by decide +kernel⟩
theorem ok_spread {f : Addr} {fd : FuncData} (F : Fun K "_law_spread" "_law_spread" sSpread f fd) (T : Cst mg) : FnOk P w K mg base CX0 1 f fd ["_law_costs"] spSpread := by
  refine F.ok scSpread (fun vs H Q E h => ?_) (fun cdv A outer s0 H vs Q E hr h => ?_)
  · obtain ⟨a, cs, rfl, _⟩ := h
    rfl
  · obtain ⟨a, cs, rfl, ha, l6, h100, q⟩ := h
    refine ⟨_, pss_cons (ps_set (i := 1) scSpread.nd rfl (Or.inr rfl) (pe_callB (cr_min rfl) (by rfl) T.min_ (by decide +kernel) (pa_cons (pe_op op_cat (pe_lst (pa_cons pe_int pa_nil)) (pe_lc (own := [("_law_cost", 2)]) (g := gName 2) (tt := _) rfl scSpread.nd (pi_list (pv 0)) (blkOk_by (own := [("_law_cost", 2)]) (N := nS) (sc := defScope sSpread) (by decide +kernel))
          (fun _ _ _ _ _ => pg_name (i := 2) scSpread.nd rfl (Or.inl rfl)) (fun _ _ _ _ _ => pts_one (pt_cmpR op_notN (pv 2) pe_non (nomark _))) (fun _ _ _ _ _ => pv 2))) pa_nil)))
      (pss_cons (ps_if (pt_cmpR op_eq (pv 1) pe_int (nomark _)) (pss_one (ps_ret (pv 0))) pss_nil)
      (pss_one (ps_ret (pe_lc (own := [("_law_cost", 2)]) (g := gName 2) (tt := tYes) rfl scSpread.nd (pi_list (pv 0)) (blkOk_by (own := [("_law_cost", 2)]) (N := nS) (sc := defScope sSpread) (by decide +kernel))
          (fun _ _ _ _ _ => pg_name (i := 2) scSpread.nd rfl (Or.inl rfl)) (fun _ _ _ _ _ => pts_nil) (fun _ _ _ _ _ => pe_ifExp (PW.pt (pw_or (pt_cmpR op_isN (pv 2) pe_non (nomark _)) (pw_or1 (pt_cmpR op_gt (pv 2) (pe_op op_add (pv 1) pe_int) (nomark _))))) (pe_op op_add (pv 1) pe_int) (pv 2)))))), ?_⟩
    refine ⟨by show 1 ≤ sizeLine; decide, fun p0 hp0 => ?_⟩
    have s0' : Same H (upd H p0 (.lst [.int 9999])) := same_up hp0
    have f0 : upd H p0 (.lst [.int 9999]) p0 = some (.lst [.int 9999]) := upd_same
    generalize upd H p0 (.lst [.int 9999]) = G0 at s0' f0 ⊢
    refine ⟨_, rfl, a, rfl, ⟨_, SqL.of (s0' _ _ ha)⟩, fun D hD => ?_⟩
    refine walk_core (walk_list (K := K) (a := a) (xs := optL cs)) (fun j F => Same G0 F ∧ F D = some (.lst ((somes (cs.take j)).map V.int))) ⟨same_up hD, upd_same⟩ (fun _ _ _ h => SqL.of (h.1 _ _ (s0' _ _ ha))) ?_ ?_
    · rintro j y F F' hj ⟨s1, h1⟩ ⟨rfl, hy⟩
      obtain ⟨co, hc, rfl⟩ := optL_get hy
      refine ⟨rfl, _, rfl, rfl, _, rfl, ?_⟩
      cases co with
      | none =>
        refine iteF ⟨s1, ?_⟩
        rw [take_snoc hc, somes_app]
        show _ = some (HO.lst ((somes (cs.take j) ++ []).map V.int))
        rw [List.append_nil]
        exact h1
      | some x =>
        refine iteT ⟨_, rfl, _, h1, ?_, fun b o hb => ?_, ?_⟩
        · have := somes_len (cs.take j)
          rw [List.length_take] at this
          rw [List.length_map]
          exact small1000 (by omega)
        · rw [upd_ne (ne_of_none hb hD)]
          exact s1 b o hb
        · rw [upd_same, take_snoc hc, somes_app, List.map_append]
          rfl
    rintro F ⟨s1, h1⟩
    rw [optL_len, List.take_length] at h1
    have ls := somes_len cs
    refine ⟨p0, D, _, _, rfl, rfl, s1 _ _ f0, h1, by rw [List.length_map]; exact Nat.le_of_lt (small1000 (by simp; omega)), fun p1 hp1 => ?_⟩
    have s2 : Same F (upd F p1 (.lst ([V.int 9999] ++ (somes cs).map V.int))) := same_up hp1
    have f1 : upd F p1 (.lst ([V.int 9999] ++ (somes cs).map V.int)) p1 = some (.lst ([V.int 9999] ++ (somes cs).map V.int)) := upd_same
    generalize upd F p1 (.lst ([V.int 9999] ++ (somes cs).map V.int)) = G1 at s2 f1 ⊢
    have sG := (s0'.trans s1).trans s2
    have haG := sG _ _ ha
    refine ⟨p1, 9999 :: somes cs, rfl, SqL.of f1, by simp, fun m hm hle => ⟨_, rfl, rfl, _, rfl, ?_⟩⟩
    have m9 := hle 9999 List.mem_cons_self
    cases em : minO cs with
    | none =>
      have e0 : somes cs = [] := List.eq_nil_iff_forall_not_mem.mpr fun x hx => by
        have := minO_none.mp em _ (somes_mem.mp hx)
        cases this
      rw [e0] at hm
      have : m = 9999 := by simpa using hm
      subst this
      refine iteT ⟨_, rfl, q a G1 sG ?_⟩
      unfold sprd
      rw [em]
      exact haG
    | some k =>
      obtain ⟨hk1, hk2⟩ := minO_some.mp em
      have hk := h100 k hk1
      have hmk := hle k (List.mem_cons_of_mem _ (somes_mem.mpr hk1))
      have : m = k := by
        rcases List.mem_cons.mp hm with h | h
        · omega
        · have := hk2 m (somes_mem.mp h)
          omega
      subst this
      have ne : decide (V.int m = V.int 9999) = false := decide_eq_false fun z => by
        injection z
        omega
      show (if decide (V.int m = V.int 9999) = true then _ else _)
      rw [ne]
      refine iteF ⟨_, rfl, a, rfl, ⟨_, SqL.of haG⟩, fun D2 hD2 => ?_⟩
      have esp : sprd cs = cs.map (up1 m) := by
        unfold sprd
        rw [em]
      refine walk_core (walk_list (K := K) (a := a) (xs := optL cs)) (fun j F => Same G1 F ∧ F D2 = some (.lst (optL ((cs.map (up1 m)).take j)))) ⟨same_up hD2, upd_same⟩ (fun _ _ _ h => SqL.of (h.1 _ _ haG)) ?_ ?_
      · rintro j y F2 F' hj ⟨s3, h3⟩ ⟨rfl, hy⟩
        obtain ⟨co, hc, rfl⟩ := optL_get hy
        have key : ∀ x, up1 m co = some x → ∃ acc, F' D2 = some (.lst acc) ∧ acc.length < sizeLine ∧ (Same G1 (upd F' D2 (.lst (acc ++ [V.int x]))) ∧ upd F' D2 (.lst (acc ++ [V.int x])) D2 = some (.lst (optL ((cs.map (up1 m)).take (j + 1))))) := fun x hx => by
          refine ⟨_, h3, ?_, fun b o hb => ?_, ?_⟩
          · rw [optL_len, List.length_take, List.length_map]
            exact small1000 (by omega)
          · rw [upd_ne (ne_of_none hb hD2)]
            exact s3 b o hb
          · rw [upd_same, take_snoc (x := some x) (by rw [List.getElem?_map, hc, ← hx]; rfl), optL_snoc]
            rfl
        refine ⟨rfl, _, rfl, rfl, _, rfl, ?_⟩
        cases co with
        | none => exact iteT (iteT ⟨_, rfl, _, _, rfl, rfl, key _ rfl⟩)
        | some x =>
          refine iteF ⟨_, rfl, _, rfl, _, _, rfl, rfl, _, _, rfl, rfl, _, rfl, ?_⟩
          by_cases hx : m + 1 < x
          · rw [decide_eq_true hx]
            exact iteT ⟨_, rfl, _, _, rfl, rfl, key _ (by rw [up1, if_pos hx])⟩
          · rw [decide_eq_false hx]
            exact iteF ⟨_, rfl, key _ (by rw [up1, if_neg hx])⟩
      · rintro F2 ⟨s3, h3⟩
        rw [optL_len, List.take_of_length_le (by rw [List.length_map]; exact Nat.le_refl _), ← esp] at h3
        exact q D2 F2 (sG.trans s3) h3
end
end Pl

namespace Pl
open L2 PySem PySem.Spec PyProof.Rows
def optD : Option Int → PyData
  | none => .none
  | some i => .int i
/-- no cost is above the visits -/
theorem bound_sprd {cs : Cs} {B : Int} (h : ∀ x, some x ∈ cs → x ≤ B) : ∀ x, some x ∈ sprd cs → x ≤ B + 1 := by
  intro x hx
  unfold sprd at hx
  cases e : minO cs with
  | none =>
    rw [e] at hx
    have := h x hx
    omega
  | some m =>
    rw [e] at hx
    obtain ⟨c, hc, hy⟩ := List.mem_map.mp hx
    have hm := h m (minO_some.mp e).1
    cases c with
    | none =>
      simp only [up1, Option.some.injEq] at hy
      omega
    | some y =>
      have := h y hc
      simp only [up1, Option.some.injEq] at hy
      split at hy <;> omega
theorem bound_visit {cs : Cs} {b : Bool} {i : Nat} {B : Int} (h : ∀ x, some x ∈ cs → x ≤ B) : ∀ x, some x ∈ visit cs b i → x ≤ B + 1 := by
  intro x hx
  unfold visit kill at hx
  rcases List.mem_or_eq_of_mem_set hx with e | e
  · split at e
    · have := h x e
      omega
    · exact bound_sprd h x e
  · cases e
theorem bound_run {cs : Cs} {b : Bool} : ∀ (is : List Nat) {B : Int}, (∀ x, some x ∈ cs → x ≤ B) → ∀ x, some x ∈ runC cs b is → x ≤ B + is.length := fun is => by
  induction is generalizing cs b with
  | nil =>
    intro B h x hx
    have := h x hx
    simp
    omega
  | cons i is ih =>
    intro B h x hx
    have := ih (bound_visit (b := b) (i := i) h) x hx
    simp only [List.length_cons]
    push_cast
    omega
theorem cs0_zero {n s : Nat} : ∀ x, some x ∈ cs0 n s → x = 0 := by
  intro x hx
  unfold cs0 at hx
  rcases List.mem_or_eq_of_mem_set hx with e | e
  · have := List.eq_of_mem_replicate e
    cases this
  · injection e
theorem cs0_get (n s j : Nat) (h : j < n) : (cs0 n s)[j]? = some (if j = s then some 0 else none) := by
  unfold cs0
  rw [List.getElem?_set]
  by_cases e : s = j
  · subst e
    rw [if_pos rfl, if_pos rfl, List.length_replicate, if_pos h]
  · rw [if_neg e, if_neg fun z => e z.symm, List.getElem?_replicate, if_pos h]
theorem lay_opts : ∀ cs : Cs, PyData.canLayAll0 (cs.map optD) = true ∧ PyData.depthAll (cs.map optD) ≤ 1
  | [] => ⟨by simp [PyData.canLayAll0], by simp [PyData.depthAll]⟩
  | c :: cs => by
    obtain ⟨h1, h2⟩ := lay_opts cs
    cases c with
    | none =>
      refine ⟨by simp [optD, PyData.canLayAll0, PyData.canLay0, h1], ?_⟩
      simp only [List.map_cons, optD, PyData.depthAll, PyData.depth]
      omega
    | some x =>
      refine ⟨by simp [optD, PyData.canLayAll0, PyData.canLay0, h1], ?_⟩
      simp only [List.map_cons, optD, PyData.depthAll, PyData.depth]
      omega
theorem shaped_lo (cs : Cs) : SeqAt.shaped (.list (cs.map optD)) = true := by
  obtain ⟨h1, h2⟩ := lay_opts cs
  show (PyData.canLay0 (.list _) && decide (PyData.depth (.list _) ≤ 64)) = true
  rw [Bool.and_eq_true]
  exact ⟨by simp only [PyData.canLay0]; exact h1, decide_eq_true (by simp only [PyData.depth]; omega)⟩
theorem dp_opts {K : PySem.W.Frag} {H : Hp} : ∀ cs : Cs, DpAll K H (optL cs) (cs.map optD)
  | [] => .nil
  | none :: cs => .cons .non (dp_opts cs)
  | some n :: cs => .cons (.int n) (dp_opts cs)
theorem ints_opts (ns : List Int) : ns.map V.int = optL (ns.map some) := by
  unfold optL
  rw [List.map_map]
  rfl
theorem iteC {c : Bool} {a b : Prop} (h : c = true) (x : a) : if c = true then a else b := by
  rw [if_pos h]
  exact x
theorem iteF' {c : Bool} {a b : Prop} (h : c = false) (x : b) : if c = true then a else b := by
  rw [if_neg (by rw [h]; decide)]
  exact x
def spLLeast : Sp := fun vs H Q _ => ∃ (a : Addr) (n s : Nat) (bs : List Nat), vs = [.int n, .ref a, .int s] ∧ H a = some (.lst (nV bs)) ∧ bs.length ≤ 4 ∧ 1 ≤ n ∧ n ≤ 5 ∧ s < n ∧ ∀ H', Same H H' → Q (optI (least n bs s)) H'
abbrev nLL : List Str := ["_law_size", "_law_begins", "_law_spot", "_law_costs", "_law_at", "_law_begin", "_law_visit", "_law_met_page", "_law_some", "_law_page", "_law_cost"]
abbrev psLL : List Str := ["_law_size", "_law_begins", "_law_spot"]
section
variable {P : Program} {K : PySem.W.Frag} {w : World} {base : Heap} {mg : Str → Option Value}
theorem scLLeast : FnScope nLL psLL (defScope sLLeast) := ⟨rfl, rfl, rfl, by decide +kernel, rfl, by decide +kernel, by decide +kernel⟩
theorem ok_lleast {f : Addr} {fd : FuncData} (F : Fun K "_law_least" "_law_least" sLLeast f fd) (T : Cst mg) (DS : Df P w K mg base 1 "_law_spread" ["_law_costs"] spSpread) : FnOk P w K mg base CX0 2 f fd psLL spLLeast := by
  obtain ⟨g, fdS, GS, mS, kS, bS⟩ := DS.ex
  refine F.ok scLLeast (fun vs H Q E h => ?_) (fun cdv A outer s0 H vs Q E hr h => ?_)
  · obtain ⟨a, n, s, bs, rfl, _⟩ := h
    rfl
  · obtain ⟨a, n, s, bs, rfl, ha, l4, n1, n5, hs, q⟩ := h
    have hu : (A.deeper (envOfC "_law_least" (defScope sLLeast) s0.heap.objs.size f cdv)).units + 64 < cLine := by
      have := hr.un
      omega
    refine ⟨_, pss_cons (ps_setLc (i := 3) (own := [("_law_page", 9)]) (g := gName 9) (tt := tYes) rfl scLLeast.nd rfl rfl (sw_true rfl rfl rfl (by decide +kernel)) (pi_range1 rfl T.rng (pa_cons (pv 0) pa_nil)) (blkOk_by (own := [("_law_page", 9)]) (N := nLL) (sc := defScope sLLeast) (by decide +kernel))
        (fun _ _ _ _ _ => pg_name (i := 9) scLLeast.nd rfl (Or.inl rfl)) (fun _ _ _ _ _ => pts_nil) (fun _ _ _ _ _ => pe_ifExp (pt_cmpR op_eq (pv 9) (pv 2) (nomark _)) pe_int pe_non))
      (pss_cons (ps_for PassesOwn.never rfl (pi_enum rfl T.enum (pa_cons (pv 1) pa_nil)) (pg_tup rfl (pgs_cons (pg_name (i := 4) scLLeast.nd rfl (Or.inl rfl)) (pgs_cons (pg_name (i := 5) scLLeast.nd rfl (Or.inl rfl)) pgs_nil)))
        (pss_one (ps_for PassesOwn.never rfl (pi_range1 rfl T.rng (pa_cons (pv 0) pa_nil)) (pg_name (i := 6) scLLeast.nd rfl (Or.inl rfl))
          (pss_cons (ps_if (pt_cmpR op_gt (pe_op op_add (pv 4) (pv 6)) pe_int (nomark _)) (pss_one (ps_set (i := 3) scLLeast.nd rfl (Or.inl rfl) (pe_call GS hr (by rfl) mS kS bS .nil pass0 (pa_cons (pv 3) pa_nil)))) pss_nil)
          (pss_cons (ps_set (i := 7) scLLeast.nd rfl (Or.inl rfl) (pe_op op_mod (pe_callTy call_int1 (by rfl) T.tint (by decide +kernel) (pa_cons (pe_op op_add (pv 5) (pv 6)) pa_nil)) (pv 0)))
          (pss_one (ps_set (i := 3) scLLeast.nd rfl (Or.inl rfl) (pe_op op_cat (pe_op op_cat (pe_slice sl_list (pv 3) po_none (po_some (pv 7))) (pe_lst (pa_cons pe_non pa_nil))) (pe_slice sl_list (pv 3) (po_some (pe_op op_add (pv 7) pe_int)) po_none)))))))))
      (pss_cons (ps_setLc (i := 8) (own := [("_law_cost", 10)]) (g := gName 10) (tt := _) rfl scLLeast.nd rfl rfl (sw_true rfl rfl rfl (by decide +kernel)) (pi_list (pv 3)) (blkOk_by (own := [("_law_cost", 10)]) (N := nLL) (sc := defScope sLLeast) (by decide +kernel))
        (fun _ _ _ _ _ => pg_name (i := 10) scLLeast.nd rfl (Or.inl rfl)) (fun _ _ _ _ _ => pts_one (pt_cmpR op_notN (pv 10) pe_non (nomark _))) (fun _ _ _ _ _ => pv 10))
      (pss_one (ps_ret (pe_ifExp (pt_cmpR (op_neD hu) (pv 8) (pe_lst pa_nil) (nomark _)) (pe_callB (cr_min rfl) (by rfl) T.min_ (by decide +kernel) (pa_cons (pv 8) pa_nil)) pe_non))))), ?_⟩
    refine ⟨_, rfl, n, rfl, by omega, by omega, fun D hD => ?_⟩
    refine walk_core (walk_range (lo := 0) (n := (n : Int).toNat)) (fun j F => Same H F ∧ F D = some (.lst (optL ((cs0 n s).take j)))) ⟨same_up hD, upd_same⟩ (fun _ _ _ _ => trivial) ?_ ?_
    · rintro j y F F' hj ⟨s1, h1⟩ ⟨rfl, rfl⟩
      have hj : j < n := hj
      have key : ∀ v : V, v = optI (if j = s then some 0 else none) → ∃ acc, F' D = some (.lst acc) ∧ acc.length < sizeLine ∧ (Same H (upd F' D (.lst (acc ++ [v]))) ∧ upd F' D (.lst (acc ++ [v])) D = some (.lst (optL ((cs0 n s).take (j + 1))))) := fun v hv => by
        refine ⟨_, h1, ?_, fun b o hb => ?_, ?_⟩
        · rw [optL_len, List.length_take, cs0_len]
          exact small1000 (by omega)
        · rw [upd_ne (ne_of_none hb hD)]
          exact s1 b o hb
        · rw [upd_same, take_snoc (cs0_get n s j hj), optL_snoc, hv]
      refine ⟨rfl, _, rfl, _, rfl, rfl, _, rfl, ?_⟩
      by_cases e : j = s
      · subst e
        rw [if_pos rfl] at key
        refine iteC (decide_eq_true (by
          show V.int (0 + (j : Int)) = V.int (j : Int)
          rw [Int.zero_add])) ?_
        exact key _ rfl
      · rw [if_neg e] at key
        refine iteF' (decide_eq_false fun z => ?_) ?_
        · injection z with z
          omega
        · exact key _ rfl
    rintro F ⟨s1, h1⟩
    rw [show ((n : Int).toNat) = n from rfl, List.take_of_length_le (by rw [cs0_len]; exact Nat.le_refl _)] at h1
    refine ⟨_, rfl, a, _, rfl, SqL.of (s1 _ _ ha), ?_⟩
    refine for_it (walk_enum (K := K) (a := a) (xs := nV bs)) (fun i σ G => ∃ d x4 x5 x6 x7, σ = [some (.int n), some (.ref a), some (.int s), some (.ref d), x4, x5, x6, x7, none, none, none] ∧ Same H G ∧ G d = some (.lst (optL (runC (cs0 n s) true (visits n (bs.take i))))))
      ⟨D, _, _, _, _, rfl, s1, h1⟩ (fun i σ G _ h => by
        obtain ⟨_, _, _, _, _, _, h, _⟩ := h
        exact SqL.of (h _ _ ha)) ?_ ?_
    · rintro i y σ G G' hi ⟨d, x4, x5, x6, x7, rfl, s2, hd⟩ ⟨T0, u, v, rfl, nT, rfl, hu, hv⟩
      cases hu
      obtain ⟨b, hb, rfl⟩ := nV_get hv
      rw [nV_len] at hi
      have sT : Same G (upd G T0 (.tup [.int (i : Nat), .int b])) := same_up nT
      have s3 := s2.trans sT
      have hd3 := sT _ _ hd
      refine ⟨T0, _, rfl, SqT.of upd_same, rfl, _, _, rfl, _, _, rfl, rfl, ?_⟩
      generalize upd G T0 (.tup [.int (i : Nat), .int b]) = G2 at s3 hd3 ⊢
      refine ⟨_, rfl, n, rfl, by omega, by omega, ?_⟩
      refine for_range (lo := 0) (n := (n : Int).toNat) (fun j σ F => ∃ d x6 x7, σ = [some (.int n), some (.ref a), some (.int s), some (.ref d), some (.int (i : Nat)), some (.int b), x6, x7, none, none, none] ∧ Same H F ∧ F d = some (.lst (optL (runC (cs0 n s) true (visits n (bs.take i) ++ (List.range j).map fun v => (b + v) % n)))))
        ⟨d, _, _, rfl, s3, by rw [List.range_zero, List.map_nil, List.append_nil]; exact hd3⟩ ?_ ?_
      · rintro j σ F hj ⟨d, x6, x7, rfl, s4, hd4⟩
        have hj : j < n := hj
        generalize hpre : visits n (bs.take i) ++ (List.range j).map (fun v => (b + v) % n) = pre at hd4
        have lpre : pre.length = i * n + j := by
          rw [← hpre, List.length_append, visits_len, List.length_take, List.length_map, List.length_range, Nat.min_eq_left (by omega)]
        have h20 : i * n ≤ 4 * 5 := Nat.mul_le_mul (by omega) n5
        have nxt : visits n (bs.take i) ++ (List.range (j + 1)).map (fun v => (b + v) % n) = pre ++ [(b + j) % n] := by
          rw [← hpre, List.range_succ, List.map_append, ← List.append_assoc, List.map_singleton]
        generalize hcs : runC (cs0 n s) true pre = cs at hd4
        have lcs : cs.length = n := by rw [← hcs, runC_len, cs0_len]
        refine seq_by (fun σ' F => ∃ d', σ' = [some (.int n), some (.ref a), some (.int s), some (.ref d'), some (.int (i : Nat)), some (.int b), some (.int (0 + (j : Int))), x7, none, none, none] ∧ Same H F ∧ F d' = some (.lst (optL (if (true && pre.isEmpty) = true then cs else sprd cs)))) ?_ ?_
        · rintro σ' F ⟨d', rfl, s5, hd5⟩
          generalize hc2 : (if (true && pre.isEmpty) = true then cs else sprd cs) = cs' at hd5
          have lcs' : cs'.length = n := by
            rw [← hc2]
            split
            · exact lcs
            · rw [sprd_len, lcs]
          have hm : (b + j) % n < n := Nat.mod_lt _ (by omega)
          have hv2 : runC (cs0 n s) true (pre ++ [(b + j) % n]) = kill cs' ((b + j) % n) := by
            rw [runC_snoc, hcs]
            unfold visit
            rw [hc2]
          have kc := kill_cut (cs := cs') (k := (b + j) % n) (by omega)
          rw [nxt, hv2]
          have hvv : V.int (((b : Int) + (0 + (j : Int))) % (n : Int)) = V.int (((b + j) % n : Nat) : Int) := congrArg V.int (here_eq b j n)
          generalize (b + j) % n = k at hm kc hvv ⊢
          refine ⟨_, rfl, _, rfl, _, _, rfl, rfl, .inl ⟨_, rfl, _, rfl, _, _, rfl, rfl, by omega, ?_⟩⟩
          refine ⟨_, rfl, noPart ?_⟩
          refine ⟨_, rfl, (k : Int), hvv, d', _, rfl, SqL.of hd5, fun p1 hp1 => ?_⟩
          rw [cut_left (by rw [optL_len, lcs']; omega)]
          have t1 := same_up (o := .lst ((optL cs').take k)) hp1
          have g1 : upd F p1 (.lst ((optL cs').take k)) p1 = some (.lst ((optL cs').take k)) := upd_same
          generalize upd F p1 (.lst ((optL cs').take k)) = F1 at t1 g1 ⊢
          refine ⟨by show 1 ≤ sizeLine; decide, fun p2 hp2 => ?_⟩
          have t2 := same_up (o := .lst [.non]) hp2
          have g2 : upd F1 p2 (.lst [.non]) p2 = some (.lst [.non]) := upd_same
          generalize upd F1 p2 (.lst [.non]) = F2 at t2 g2 ⊢
          refine ⟨p1, p2, _, _, rfl, rfl, t2 _ _ g1, g2, Nat.le_of_lt (small1000 (by rw [List.length_take, optL_len]; simp; omega)), fun p3 hp3 => ?_⟩
          have t3 := same_up (o := .lst ((optL cs').take k ++ [.non])) hp3
          have g3 : upd F2 p3 (.lst ((optL cs').take k ++ [.non])) p3 = some (.lst ((optL cs').take k ++ [.non])) := upd_same
          generalize upd F2 p3 (.lst ((optL cs').take k ++ [.non])) = F3 at t3 g3 ⊢
          refine ⟨_, rfl, _, rfl, (k : Int), 1, hvv, rfl, _, rfl, noPart ?_⟩
          refine ⟨d', _, rfl, SqL.of (t3 _ _ (t2 _ _ (t1 _ _ hd5))), fun p4 hp4 => ?_⟩
          rw [show cutV (optL cs') (some ((k : Int) + 1)) none = (optL cs').drop (k + 1) from cut_right (k := k + 1) (by rw [optL_len, lcs']; omega)]
          have t4 := same_up (o := .lst ((optL cs').drop (k + 1))) hp4
          have g4 : upd F3 p4 (.lst ((optL cs').drop (k + 1))) p4 = some (.lst ((optL cs').drop (k + 1))) := upd_same
          generalize upd F3 p4 (.lst ((optL cs').drop (k + 1))) = F4 at t4 g4 ⊢
          refine ⟨p3, p4, _, _, rfl, rfl, t4 _ _ g3, g4, Nat.le_of_lt (small1000 (by rw [List.length_append, List.length_take, List.length_drop, optL_len]; simp; omega)), fun p5 hp5 => ?_⟩
          exact ⟨p5, _, _, rfl, ((((s5.trans t1).trans t2).trans t3).trans t4).trans (same_up hp5), by rw [upd_same, kc]⟩
        · intro rest
          refine ⟨_, rfl, _, rfl, _, _, rfl, rfl, _, _, rfl, rfl, _, rfl, ?_⟩
          refine ite2 (fun e => ?_) fun e => ?_
          · have e0 := of_decide_eq_true e
            have ne : (true && pre.isEmpty) = false := by
              rw [Bool.true_and, List.isEmpty_eq_false_iff]
              intro z
              rw [z] at lpre
              have : 0 < i * n + j := by
                by_cases i0 : 0 < i
                · have := Nat.mul_pos i0 n1
                  omega
                · omega
              simp at lpre
              omega
            refine ⟨_, rfl, d, cs, rfl, hd4, by omega, fun x hx => ?_, fun p F2 s5 hp => ?_⟩
            · have := bound_run pre (B := 0) (fun x hx => Int.le_of_eq (cs0_zero x hx)) x (hcs ▸ hx)
              omega
            · refine rest _ _ ⟨p, rfl, s4.trans s5, ?_⟩
              rw [if_neg (by rw [ne]; decide)]
              exact hp
          · refine rest _ _ ⟨d, rfl, s4, ?_⟩
            have e0 : ¬ (0 : Int) < (i : Nat) + (0 + (j : Int)) := fun z => e (decide_eq_true z)
            have i0 : i = 0 := by omega
            have j0 : j = 0 := by omega
            have : pre = [] := List.length_eq_zero_iff.mp (by rw [lpre, i0, j0]; simp)
            rw [if_pos (by rw [this]; rfl)]
            exact hd4
      · rintro σ F ⟨d, x6, x7, rfl, s4, hd4⟩
        refine ⟨d, _, _, _, _, rfl, s4, ?_⟩
        rw [take_snoc hb, visits_snoc]
        exact hd4
    · rintro σ G ⟨d, x4, x5, x6, x7, rfl, s2, hd⟩
      rw [nV_len, List.take_length] at hd
      have qq : ∀ H', Same H H' → Q (optI (minO (runC (cs0 n s) true (visits n bs)))) H' := q
      have lcs : (runC (cs0 n s) true (visits n bs)).length = n := by rw [runC_len, cs0_len]
      generalize runC (cs0 n s) true (visits n bs) = cs at hd qq lcs
      refine ⟨_, rfl, d, rfl, ⟨_, SqL.of hd⟩, fun D2 hD2 => ?_⟩
      refine walk_core (walk_list (K := K) (a := d) (xs := optL cs)) (fun j F => Same G F ∧ F D2 = some (.lst ((somes (cs.take j)).map V.int))) ⟨same_up hD2, upd_same⟩ (fun _ _ _ h => SqL.of (h.1 _ _ hd)) ?_ ?_
      · rintro j y F F' hj ⟨s3, h1⟩ ⟨rfl, hy⟩
        obtain ⟨co, hc, rfl⟩ := optL_get hy
        refine ⟨rfl, _, rfl, rfl, _, rfl, ?_⟩
        cases co with
        | none =>
          refine iteF ⟨s3, ?_⟩
          rw [take_snoc hc, somes_app]
          show _ = some (HO.lst ((somes (cs.take j) ++ []).map V.int))
          rw [List.append_nil]
          exact h1
        | some x =>
          refine iteT ⟨_, rfl, _, h1, ?_, fun b o hb => ?_, ?_⟩
          · have := somes_len (cs.take j)
            rw [List.length_take] at this
            rw [List.length_map]
            exact small1000 (by omega)
          · rw [upd_ne (ne_of_none hb hD2)]
            exact s3 b o hb
          · rw [upd_same, take_snoc hc, somes_app, List.map_append]
            rfl
      rintro F ⟨s3, h3⟩
      rw [optL_len, List.take_length] at h3
      refine ⟨_, rfl, by show 0 ≤ sizeLine; decide, fun p hp => ?_⟩
      have sp := same_up (o := .lst []) hp
      have s5 := (s2.trans s3).trans sp
      have h5 := sp _ _ h3
      have e5 := h5
      rw [ints_opts] at e5
      refine ⟨_, _, .lst (SqL.of e5) (dp_opts _), .lst (SqL.of upd_same) .nil, shaped_lo _, shaped_lo [], _, rfl, ?_⟩
      cases em : minO cs with
      | none =>
        have e0 : somes cs = [] := List.eq_nil_iff_forall_not_mem.mpr fun x hx => by
          have := minO_none.mp em _ (somes_mem.mp hx)
          cases this
        rw [em] at qq
        rw [e0]
        exact iteF (qq _ s5)
      | some k =>
        have hm0 := somes_mem.mpr (minO_some.mp em).1
        cases ec : somes cs with
        | nil =>
          rw [ec] at hm0
          cases hm0
        | cons z zs =>
          refine iteT ⟨_, rfl, D2, somes cs, rfl, SqL.of h5, by rw [ec]; simp, fun m hm hle => ?_⟩
          have := qq _ s5
          rw [min_is hm hle] at this
          exact this
end
end Pl

namespace Pl
open L2 PySem PySem.Spec PyProof.Rows
theorem PrL.lst {p : Addr} {G : Hp} {xs ys : List V} (hp : G p = some (.lst xs)) : ∀ {us : List V} {ps : List (Int × Int)}, PrL G us ps → PrL (upd G p (.lst ys)) us ps
  | _, _, .nil => .nil
  | _, _, .cons ⟨a, e, h⟩ t => .cons ⟨a, e, by
    rw [upd_ne (fun q => by rw [q, hp] at h; cases h)]
    exact h⟩ (PrL.lst hp t)
theorem Rch.len {l : List Int} : ∀ {s : Int} {k : Nat}, Rch l s k → k ≤ l.length := by
  induction l with
  | nil => exact fun h => Nat.le_of_eq h.2
  | cons x l ih =>
    intro s k h
    rcases h with h | ⟨j, e, h⟩
    · have := ih h
      rw [List.length_cons]
      omega
    · have := ih h
      rw [List.length_cons]
      omega
/-- the greatest size of those that are no dearer than c -/
structure Best (c : Int) (ps : List (Int × Int)) (B : Int) : Prop where
  top : ∀ q ∈ ps, q.1 ≤ c → q.2 ≤ B
  hit : B = 0 ∨ ∃ q ∈ ps, q.1 ≤ c ∧ q.2 = B
  pos : 0 ≤ B
theorem Best.next {c B : Int} {ps : List (Int × Int)} {q : Int × Int} (h : Best c ps B) (q0 : 0 ≤ q.2) : Best c (ps ++ [q]) (if q.2 * (if decide (q.1 ≤ c) = true then 1 else 0) > B then q.2 * (if decide (q.1 ≤ c) = true then 1 else 0) else B) := by
  by_cases e : q.1 ≤ c
  · rw [decide_eq_true e, if_pos rfl, Int.mul_one]
    by_cases g : q.2 > B
    · rw [if_pos g]
      refine ⟨fun r hr hc => ?_, .inr ⟨q, List.mem_append_right _ (List.mem_singleton.mpr rfl), e, rfl⟩, q0⟩
      rcases List.mem_append.mp hr with hr | hr; skip
      · have := h.top r hr hc
        omega
      · rw [List.mem_singleton.mp hr]; skip
        exact Int.le_refl _
    · rw [if_neg g]
      refine ⟨fun r hr hc => ?_, ?_, h.pos⟩
      · rcases List.mem_append.mp hr with hr | hr; skip
        · exact h.top r hr hc
        · rw [List.mem_singleton.mp hr]; skip
          omega
      · rcases h.hit with z | ⟨r, hr, z⟩
        · exact .inl z
        · exact .inr ⟨r, List.mem_append_left _ hr, z⟩
  · rw [decide_eq_false e]
    show Best c (ps ++ [q]) (if q.2 * 0 > B then q.2 * 0 else B)
    rw [Int.mul_zero, if_neg (by have := h.pos; omega)]
    refine ⟨fun r hr hc => ?_, ?_, h.pos⟩
    · rcases List.mem_append.mp hr with hr | hr; skip
      · exact h.top r hr hc
      · rw [List.mem_singleton.mp hr] at hc
        exact absurd hc e
    · rcases h.hit with z | ⟨r, hr, z⟩
      · exact .inl z
      · exact .inr ⟨r, List.mem_append_left _ hr, z⟩
def spLMost : Sp := fun vs H Q _ => ∃ (a : Addr) (cs : Cs) (c : Int), vs = [.ref a, .int c] ∧ H a = some (.lst (optL cs)) ∧ cs.length ≤ 6 ∧ ∀ H' B, Same H H' → Best c (parts [(0, 0)] (somes cs)) B → Q (.int B) H'
abbrev nLM2 : List Str := ["_law_costs", "_law_count", "_law_best", "_law_found", "_law_cost", "_law_whole", "_law_size"]
section
variable {P : Program} {K : PySem.W.Frag} {w : World} {base : Heap} {mg : Str → Option Value}
theorem scLMost : FnScope nLM2 ["_law_costs", "_law_count"] (defScope sLMost) := ⟨rfl, rfl, rfl, by decide +kernel, rfl, by decide +kernel, by decide +kernel⟩
theorem ok_lmost {f : Addr} {fd : FuncData} (F : Fun K "_law_most" "_law_most" sLMost f fd) (T : Cst mg) : FnOk P w K mg base CX0 1 f fd ["_law_costs", "_law_count"] spLMost := by
  refine F.ok scLMost (fun vs H Q E h => ?_) (fun cdv A outer s0 H vs Q E hr h => ?_)
  · obtain ⟨a, cs, c, rfl, _⟩ := h
    rfl
  · obtain ⟨a, cs, c, rfl, ha, l6, q⟩ := h
    refine ⟨_, pss_cons (ps_par (i := 2) (j := 3) (by rfl) scLMost.nd rfl rfl (by decide) rfl rfl (pa_cons pe_int (pa_cons (pe_lst (pa_cons (pe_tup (pa_cons pe_int (pa_cons pe_int pa_nil))) pa_nil)) pa_nil)) (by rfl))
      (pss_cons (ps_for PassesOwn.never rfl (pi_list (pv 0)) (pg_name (i := 4) scLMost.nd rfl (Or.inr rfl))
        (pss_one (ps_if (pt_cmpR op_notN (pv 4) pe_non (nomark _)) (pss_one (ps_set (i := 3) scLMost.nd rfl (Or.inl rfl) (pe_op op_cat (pv 3) (pe_lc (own := [("_law_whole", 5), ("_law_size", 6)]) (g := gTup K 2 (gCons (gName 5) (gCons (gName 6) gNil))) (tt := tYes) rfl scLMost.nd (pi_list (pv 3)) (blkOk_by (own := [("_law_whole", 5), ("_law_size", 6)]) (N := nLM2) (sc := defScope sLMost) (by decide +kernel))
          (fun _ _ _ _ _ => pg_tup rfl (pgs_cons (pg_name (i := 5) scLMost.nd rfl (Or.inl rfl)) (pgs_cons (pg_name (i := 6) scLMost.nd rfl (Or.inl rfl)) pgs_nil))) (fun _ _ _ _ _ => pts_nil) (fun _ _ _ _ _ => pe_tup (pa_cons (pe_op op_add (pv 5) (pv 4)) (pa_cons (pe_op op_add (pv 6) pe_int) pa_nil))))))) pss_nil)))
      (pss_cons (ps_for PassesOwn.never rfl (pi_list (pv 3)) (pg_tup rfl (pgs_cons (pg_name (i := 5) scLMost.nd rfl (Or.inl rfl)) (pgs_cons (pg_name (i := 6) scLMost.nd rfl (Or.inl rfl)) pgs_nil)))
        (pss_one (ps_set (i := 2) scLMost.nd rfl (Or.inl rfl) (pe_callB (call_max2 rfl) (by rfl) T.max_ (by decide +kernel) (pa_cons (pv 2) (pa_cons (pe_callTy call_int1 (by rfl) T.tint (by decide +kernel) (pa_cons (pe_op op_mul (pv 6) (pe_callTy call_int1 (by rfl) T.tint (by decide +kernel) (pa_cons (pe_cmpR op_le (pv 5) (pv 1) (nomark _)) pa_nil))) pa_nil)) pa_nil))))))
      (pss_one (ps_ret (pv 2))))), ?_⟩
    refine ⟨by show 2 ≤ sizeLine; decide, fun t0 ht0 => ⟨by show 1 ≤ sizeLine; decide, fun p0 hp0 => ⟨_, _, rfl, _, rfl, a, rfl, ⟨optL cs, SqL.of ?_⟩, ?_⟩⟩⟩
    · exact same_up hp0 _ _ (same_up ht0 _ _ ha)
    have sA : Same H (upd H t0 (.tup [.int 0, .int 0])) := same_up ht0
    have fA : upd H t0 (.tup [.int 0, .int 0]) t0 = some (.tup [.int 0, .int 0]) := upd_same
    generalize upd H t0 (.tup [.int 0, .int 0]) = G0 at sA fA hp0 ⊢
    have sB : Same G0 (upd G0 p0 (.lst [.ref t0])) := same_up hp0
    have hp : upd G0 p0 (.lst [.ref t0]) p0 = some (.lst [.ref t0]) := upd_same
    have f0 := sB _ _ fA
    have s0 := sA.trans sB
    generalize upd G0 p0 (.lst [.ref t0]) = G1 at s0 hp f0 ⊢
    refine for_list (K := K) (a := a) (xs := optL cs) (fun i σ G => ∃ d us ps x4, σ = [some (.ref a), some (.int c), some (.int 0), some (.ref d), x4, none, none] ∧ Same H G ∧ G d = some (.lst us) ∧ PrL G us ps ∧ parts ps (somes (cs.drop i)) = parts [(0, 0)] (somes cs) ∧ ps.length ≤ 2 ^ i)
      ⟨p0, _, [(0, 0)], _, rfl, s0, hp, .cons ⟨t0, rfl, f0⟩ .nil, rfl, Nat.le_refl _⟩ (fun i σ G _ h => by
        obtain ⟨_, _, _, _, _, h, _⟩ := h
        exact SqL.of (h _ _ ha)) ?_ ?_
    · rintro i y σ G hy ⟨d, us, ps, x4, rfl, s1, hd, hps, e1, l1⟩
      obtain ⟨co, hc, rfl⟩ := optL_get hy
      have ed : cs.drop i = co :: cs.drop (i + 1) := by
        obtain ⟨lt, e⟩ := List.getElem?_eq_some_iff.mp hc
        rw [← e]
        exact List.drop_eq_getElem_cons lt
      have i6 : i < 6 := by
        have := (List.getElem?_eq_some_iff.mp hc).1
        omega
      have p32 : 2 ^ i ≤ 2 ^ 5 := Nat.pow_le_pow_right (by decide) (by omega)
      have p2s : 2 ^ (i + 1) = 2 ^ i * 2 := Nat.pow_succ 2 i
      have lu := hps.len
      rw [ed] at e1
      refine ⟨_, rfl, rfl, _, rfl, ?_⟩; skip
      cases co with
      | none => exact iteF ⟨d, us, ps, _, rfl, s1, hd, hps, e1, by omega⟩
      | some x =>
        refine iteT ⟨_, rfl, _, rfl, d, rfl, ⟨_, SqL.of hd⟩, fun D hD => ?_⟩
        refine walk_core (walk_list (K := K) (a := d) (xs := us)) (fun j F => ∃ ws, Same G F ∧ F D = some (.lst ws) ∧ PrL F ws ((ps.take j).map fun p => (p.1 + x, p.2 + 1))) ⟨[], same_up hD, upd_same, by rw [List.take_zero]; exact .nil⟩ (fun _ _ _ h => by
          obtain ⟨_, h, _⟩ := h
          exact SqL.of (h _ _ hd)) ?_ ?_
        · rintro j y F F' hj ⟨ws, s2, h2, h3⟩ ⟨rfl, hy⟩
          obtain ⟨p, hpj, t, rfl, ht⟩ := hps.at hy
          refine ⟨t, _, rfl, SqT.of (s2 _ _ ht), rfl, _, _, rfl, _, _, rfl, rfl, rfl, ?_⟩
          refine ⟨_, rfl, _, rfl, _, _, rfl, rfl, _, rfl, _, _, rfl, rfl, by show 2 ≤ sizeLine; decide, fun t2 ht2 => ?_⟩
          have s4 := same_up (o := .tup [.int (p.1 + x), .int (p.2 + 1)]) ht2
          have f4 : upd F' t2 (.tup [.int (p.1 + x), .int (p.2 + 1)]) t2 = some (.tup [.int (p.1 + x), .int (p.2 + 1)]) := upd_same
          have h24 := s4 _ _ h2
          have h34 := h3.same s4
          refine ⟨_, h24, ?_, ws ++ [.ref t2], fun b o hb => ?_, upd_same, ?_⟩
          · rw [h3.len, List.length_map, List.length_take]
            exact small1000 (by omega)
          · rw [upd_ne (ne_of_none hb hD)]
            exact s4 _ _ (s2 b o hb)
          · rw [take_snoc hpj, List.map_append]
            exact PrL.lst h24 (h34.app (.cons ⟨t2, rfl, f4⟩ .nil))
        · rintro F ⟨ws, s2, h2, h3⟩
          have lw := h3.len
          rw [List.length_map, List.length_take] at lw
          rw [lu, List.take_length] at h3
          refine ⟨d, D, _, _, rfl, rfl, s2 _ _ hd, h2, Nat.le_of_lt (small1000 (by omega)), fun p2 hp2 => ?_⟩
          have s5 := same_up (o := .lst (us ++ ws)) hp2
          refine ⟨p2, _, _, _, rfl, (s1.trans s2).trans s5, upd_same, ((hps.same s2).app h3).same s5, e1, ?_⟩
          rw [List.length_append, List.length_map]
          omega
    · rintro σ G ⟨d, us, ps, x4, rfl, s1, hd, hps, e1, l1⟩
      rw [optL_len, List.drop_length] at e1
      have e1 : ps = parts [(0, 0)] (somes cs) := e1
      have sz : ∀ p ∈ ps, 0 ≤ p.2 ∧ p.2 ≤ 6 := fun p hp => by
        rw [e1] at hp
        obtain ⟨p0, hp0, k, e, r⟩ := parts_mem.mp hp
        have : p0 = (0, 0) := by simpa using hp0
        subst this
        have h1 := r.len
        have h2 := somes_len cs
        simp only at e
        omega
      refine ⟨_, rfl, d, rfl, ⟨_, SqL.of hd⟩, ?_⟩
      refine for_list (K := K) (a := d) (xs := us) (fun i σ F => ∃ B x5 x6, σ = [some (.ref a), some (.int c), some (.int B), some (.ref d), x4, x5, x6] ∧ F = G ∧ Best c (ps.take i) B)
        ⟨0, _, _, rfl, rfl, ⟨fun q hq => by rw [List.take_zero] at hq; (cases hq), .inl rfl, Int.le_refl _⟩⟩ (fun i σ F _ h => by
          obtain ⟨_, _, _, _, rfl, _⟩ := h
          exact SqL.of hd) ?_ ?_
      · rintro i y σ F hy ⟨B, x5, x6, rfl, rfl, hB⟩
        obtain ⟨p, hpi, t, rfl, ht⟩ := hps.at hy
        have hz := sz p (List.mem_of_getElem? hpi)
        refine ⟨t, _, rfl, SqT.of ht, rfl, _, _, rfl, _, _, rfl, rfl, ?_⟩
        refine ⟨_, rfl, _, rfl, _, rfl, _, rfl, _, _, rfl, rfl, .inr ⟨_, rfl, _, _, rfl, rfl, .inl ⟨by omega, by omega⟩, .inl ⟨_, rfl, _, _, rfl, ?_⟩⟩⟩
        refine ⟨_, _, _, rfl, rfl, ?_⟩
        rw [take_snoc hpi]
        exact hB.next hz.1
      · rintro σ F ⟨B, x5, x6, rfl, rfl, hB⟩
        rw [hps.len, List.take_length] at hB
        exact ⟨_, rfl, q _ B s1 (e1 ▸ hB)⟩
end
end Pl

namespace Pl
open L2 PySem PySem.Spec PyProof.Rows
/-- what is told by refusals: flat or listed, or the dict {0: 0} -/
def Rdv (H : Hp) (v : V) (d : PyData) : Prop := (∃ m z, Dv m z H false v d) ∨ ∃ a, v = .ref a ∧ d = .dict [(.int 0, .int 0)] ∧ H a = some (.dK [(Sum.inl 0, .int 0)])
theorem Rdv.same {H G : Hp} {v : V} {d : PyData} (h : Rdv H v d) (s : Same H G) : Rdv G v d := by
  rcases h with ⟨m, z, h⟩ | ⟨a, e1, e2, h⟩
  · exact .inl ⟨m, z, Dv.to (But.of s) _ _ _ h⟩
  · exact .inr ⟨a, e1, e2, s _ _ h⟩
def rReprR : List V → Hp → VK → Prop := fun xs H Q => ∃ (v : V) (d : PyData), xs = [v] ∧ Rdv H v d ∧ Shw d ∧ Q (.str d.shown) H
theorem call_reprR {X : Cx} (hg : X.A.guards = some []) (hu : X.A.units + 64 < cLine) : CallR X (.builtin "repr") rReprR := by
  intro pins s σ H xs us Q I r h; skip
  obtain ⟨v, d, rfl, hd, S, q⟩ := h
  rcases hd with ⟨m, z, hd⟩ | ⟨a, rfl, rfl, ha⟩
  · exact call_repr hg hu pins s σ H _ us Q I r ⟨m, z, v, d, rfl, hd, S, q⟩
  obtain ⟨u, rfl, ru⟩ := vals1 r; skip
  obtain rfl : u = Value.ref a := ru; skip
  obtain ⟨_, lo, vs, rel, o, es, n, e1, e2, e3, _, e4, _⟩ := I.hok _ _ ha
  obtain ⟨l⟩ := es
  have rd : ∃ as, Reads s.heap (.ref a) (.dict [(.int 0, .int 0)]) as ∧ sysModules ∉ as := by
    cases rel with
    | @cons _ y _ _ r1 r2 =>
      cases r2
      obtain ⟨k1, v1⟩ := y
      obtain ⟨ek, ⟨t, ev⟩⟩ := r1
      have ek : Sum.inl 0 = k1 := ek
      have ev : v1 = .int 0 t := ev
      subst ek ev
      cases e4 with
      | @cons en _ _ _ e6 e7 e8 =>
        cases e8
        obtain ⟨t2, ek2⟩ := (keyIs_rel e6 : RelV (kV (Sum.inl 0)) en.key)
        refine ⟨[a] ++ ([] ++ []) ++ ([] ++ []), .dict e1 e2.1 e3 (.cons ?_ .nil) (.cons ?_ .nil), fun hm => ?_⟩
        · show Reads s.heap en.key (.int 0) []
          rw [ek2]
          exact .int 0 t2
        · show Reads s.heap en.val (.int 0) []
          rw [e7]
          exact .int 0 t
        · simp only [List.append_nil, List.mem_singleton] at hm
          subst hm
          simp at lo
  obtain ⟨as, rd, ns⟩ := rd
  refine repr_of_reads' rd S.sh (fun _ => ns) hg (by have := S.dp; omega) (fun _ _ e => e) (fun h' w tk k => ?_) S.sz
  exact ⟨.str _, H, I.kept k, ⟨w, rfl⟩, q⟩
def oddL : List PyData := [.none, .bool true, .int (-1), .str "0", .str "1", .list [], .list [.bool true], .list (List.replicate 6 (.int 0)), .list (List.replicate 21 (.int 0)), .dict [(.int 0, .int 0)], .list [.int 0, .none], .list [.int 0, .int (-1)], .list [.int 0, .bool true], .list [.int 0, .str "0"]] ++ ((List.range 8).map fun n => PyData.int (n : Nat)) ++ ((List.range 6).map fun n => PyData.list [.int (n : Nat)]) ++ ((List.range 6).map fun n => PyData.list [.int 0, .int (n : Nat)])
def wordL : List Str := ["count", "page"]
theorem odd_all : (oddL.all fun d => d.showable && decide (d.depth ≤ 10) && decide (d.shown.length ≤ sizeLine) && wordL.all fun w => SeqAt.shaped (.list [.str w, .str d.shown])) = true := by decide +kernel
theorem odd_ok {d : PyData} (h : d ∈ oddL) : Shw d ∧ ∀ w ∈ wordL, SeqAt.shaped (.list [.str w, .str d.shown]) = true := by
  have := List.all_eq_true.mp odd_all d h
  rw [Bool.and_eq_true, Bool.and_eq_true, Bool.and_eq_true] at this
  exact ⟨⟨this.1.1.1, of_decide_eq_true this.1.1.2, of_decide_eq_true this.1.2⟩, fun w hw => List.all_eq_true.mp this.2 w hw⟩
def OdV (H : Hp) (v : V) (e : PyData) : Prop := e ∈ oddL ∧ Rdv H v e
theorem OdV.same {H G : Hp} {v : V} {e : PyData} (h : OdV H v e) (s : Same H G) : OdV G v e := ⟨h.1, h.2.same s⟩
theorem OdV.fl {H : Hp} {v : V} {e : PyData} (m : e ∈ oddL) (f : Fl v e) : OdV H v e := ⟨m, .inl ⟨true, 0, f.dv⟩⟩
abbrev outL (w : Str) (d : PyData) : HO := .lst [.str w, .str d.shown]
structure Two where
  n : Addr
  p : Addr
def Two.is_ (c : Two) (w : Str) (cls : Value) : Prop := (w = "count" ∧ cls = .ref c.n) ∨ (w = "page" ∧ cls = .ref c.p)
theorem Two.word {c : Two} {w : Str} {cls : Value} (h : c.is_ w cls) : w ∈ wordL := by
  rcases h with ⟨rfl, _⟩ | ⟨rfl, _⟩ <;> simp [wordL]
def TTr (c : Two) : (XK → Hp → VK → Prop) → Hp → VK → Prop := fun tl H Q =>
  tl (fun cls d H' => ∃ (dd : Addr) (v : V) (e : PyData) (w : Str), c.is_ w cls ∧ d = some dd ∧ H' dd = some (.xd [("told", v)]) ∧ OdV H' v e ∧ ∀ p, H' p = none → Q (.ref p) (upd H' p (outL w e))) H fun _ H1 => Q .non H1
structure ErrS (K : PySem.W.Frag) (mg : Str → Option Value) (x : Str) (C : Addr) : Prop where
  gC : mg x = some (.ref C)
  xf : XfC K C
  no : PySem.W.findIn K (.ref C) "told" = some none
structure Tri (K : PySem.W.Frag) (mg : Str → Option Value) (c : Two) : Prop where
  n : ErrS K mg "NoCount" c.n
  p : ErrS K mg "NoPage" c.p
  nn : PySem.W.exmOne K (.ref c.n) (.ref c.n) = some true
  pn : PySem.W.exmOne K (.ref c.p) (.ref c.n) = some false
  pp : PySem.W.exmOne K (.ref c.p) (.ref c.p) = some true
abbrev psT : List Str := ["_law_call", "e"]
theorem scTried : FnScope psT ["_law_call"] (defScope sTried) := ⟨rfl, rfl, rfl, by decide +kernel, rfl, by decide +kernel, by decide +kernel⟩
theorem takes_len {X : Cx} {W : WX} (tk : Takes X W) : Takes X (fun cls d σ H => σ.length = X.N.length → W cls d σ H) := fun u s' ⟨a, B, sI, pins, σ, H, cls, d, e, I, nb, up, sky, na, os, ag, w⟩ => tk u s' ⟨a, B, sI, pins, σ, H, cls, d, e, I, nb, up, sky, na, os, ag, w I.len⟩
theorem pss_ex {X : Cx} {b : List Stmt} {ι : Type} {Pre : ι → Prop} {t : ι → Ends → L2.St → Hp → Prop} (h : ∀ i, Pre i → PSs X b (t i)) : PSs X b (fun D σ H => ∃ i, Pre i ∧ t i D σ H) := ⟨fun pins s σ H D I ⟨i, p, h'⟩ => (h i p).run pins s σ H D I h'⟩
theorem tried_gives {X : Cx} {c : Two} {g : Addr} {cdg : Value} {q : Str} (hgd : X.A.guards = some []) (hun : X.A.units + 128 < cLine) (T : Cst X.mg) (S : Tri X.K X.mg c) : LamX.GivesTo X psT "_law_tried" (defScope sTried) g cdg (defBody sTried) "_law_call" q (TTr c) := by
  intro f c' s H Q tl act hc h
  have hu : (X.A.deeper (envOfC "_law_tried" (defScope sTried) s.heap.objs.size g cdg)).units + 64 < cLine := by
    show X.A.units + 3 + 64 < cLine
    omega
  refine ⟨_, pss_cons (ps_try_all (X := (cxOf C8.CX0 X.prog X.w X.K X.mg X.base psT "_law_tried" (defScope sTried) g cdg X.A X.stack s H C8.E0).nox) (i := 1) (n := "e")
      rfl rfl scTried.nd rfl rfl takes0 (fun W pn xe tk _ => pss_ex (Pre := fun Ech : XK => ∀ cls d σ' H', Ech cls d H' → (List.length σ' = 2) → W cls d σ' H') fun Ech hW => pss_one (ps_expr (act _ pn xe Ech _ _ (takes_len tk) hW)))
      (.cons (x := "NoCount") ⟨rfl, by decide, .inl S.n.gC⟩ (fun a oe cls d pn hz hf => pss_one (ps_ret (pe_lst (pa_cons pe_str (pa_cons (pe_callB (call_reprR hgd hu) (by rfl) T.rpr (by decide +kernel) (pa_cons (pe_xf S.n.xf S.n.no hz hf (pv 1)) pa_nil)) pa_nil)))))
      (.cons (x := "NoPage") ⟨rfl, by decide, .inl S.p.gC⟩ (fun a oe cls d pn hz hf => pss_one (ps_ret (pe_lst (pa_cons pe_str (pa_cons (pe_callB (call_reprR hgd hu) (by rfl) T.rpr (by decide +kernel) (pa_cons (pe_xf S.p.xf S.p.no hz hf (pv 1)) pa_nil)) pa_nil)))))
      .nil))) (pss_one (ps_ret pe_non)), ?_⟩
  refine ⟨_, ?_, rfl, hc, h⟩
  rintro cls d σ' H' ⟨dd, v, e, w, hw, rfl, hd, ⟨me, dv⟩, q'⟩ hl
  match σ', hl with
  | [y1, y2], _ =>
  rcases hw with ⟨rfl, rfl⟩ | ⟨rfl, rfl⟩
  · exact ⟨true, S.nn, fun _ a ha => ⟨_, rfl, rfl, rfl, dd, _, v, rfl, hd, rfl, v, e, rfl, dv, (odd_ok me).1, by show 2 ≤ sizeLine; decide, fun l hl => q' l hl⟩, fun q => nomatch q⟩
  · exact ⟨false, S.pn, (fun q => nomatch q), fun _ => ⟨true, S.pp, fun _ a ha => ⟨_, rfl, rfl, rfl, dd, _, v, rfl, hd, rfl, v, e, rfl, dv, (odd_ok me).1, by show 2 ≤ sizeLine; decide, fun l hl => q' l hl⟩, fun q => nomatch q⟩⟩
theorem eqv_self {d : PyData} (h : SeqAt.shaped d = true) : PyData.eqv d d = true := by
  have h' : (d.canLay0 && decide (d.depth ≤ 64)) = true := h
  rw [Bool.and_eq_true] at h'
  exact SeqAt.eqv_refl d h'.1
theorem ne_lists {K : PySem.W.Frag} {G : Hp} {p p2 : Addr} {w : Str} {e : PyData} {Q : VK} (hw : w ∈ wordL) (me : e ∈ oddL) (hp : G p = some (outL w e)) (hp2 : G p2 = some (outL w e)) (q : Q (.bl false) G) : rNeD K (.ref p) (.ref p2) G Q := by
  have sh := (odd_ok me).2 w hw
  refine ⟨_, _, .lst (SqL.of hp) (.cons (.str _) (.cons (.str _) .nil)), .lst (SqL.of hp2) (.cons (.str _) (.cons (.str _) .nil)), sh, sh, ?_⟩
  rw [eqv_self sh]
  exact q
theorem eq_lists {K : PySem.W.Frag} {G : Hp} {p p2 : Addr} {w : Str} {e : PyData} {Q : VK} (hw : w ∈ wordL) (me : e ∈ oddL) (hp : G p = some (outL w e)) (hp2 : G p2 = some (outL w e)) (q : Q (.bl true) G) : rEqD K (.ref p) (.ref p2) G Q := by
  have sh := (odd_ok me).2 w hw
  refine ⟨_, _, .lst (SqL.of hp) (.cons (.str _) (.cons (.str _) .nil)), .lst (SqL.of hp2) (.cons (.str _) (.cons (.str _) .nil)), sh, sh, ?_⟩
  rw [eqv_self sh]
  exact q
abbrev TbL := List (Addr × Str)
abbrev lam1 : Str := (envOfC "_law_refused" (defScope sRefused) 0 0 (.ref 0)).qual ++ "<lambda>"
theorem if_tried {K : PySem.W.Frag} {Tb : TbL} {c : Two} {C : Addr} {t : XK → TE} {tR : TE} {v : V} {e : PyData} {w : Str} {σ : L2.St} {G : Hp} {D : Ends} (hw : c.is_ w (.ref C)) (hT : LamX.Tabs Tb G)
    (raise : ∀ (E : XK) (H1 : Hp) (Q' : VK), LamX.ExtN G H1 → Rais C v H1 E → t E σ H1 Q') (od : ∀ H1, LamX.ExtN G H1 → OdV H1 v e)
    (right : ∀ (H1 : Hp) (Q' : VK), LamX.ExtN G H1 → (∀ p2 G2, Same H1 G2 → G2 p2 = some (outL w e) → Q' (.ref p2) G2) → tR σ H1 Q')
    (next : ∀ G', LamX.ExtN G G' → LamX.Tabs Tb G' → D.nx σ G') : tIfS (tTest (tOp (rNeD K) (LamX.tLam Tb (TTr c) t) tR)) (tRet (tC (V.bl false))) tNext D σ G := by
  refine ⟨hT, fun H1 eN T1 => raise _ H1 _ eN fun dd H' s' hd => ⟨dd, v, e, w, hw, rfl, hd, (od H1 eN).same s', fun p hp => ?_⟩⟩
  refine right _ _ (eN.trans (LamX.ExtN.of (s'.trans (same_up hp)))) fun p2 G2 s2 h2 => ?_
  have sA := (s'.trans (same_up (o := outL w e) hp)).trans s2
  exact ne_lists (Two.word hw) (od H1 eN).1 (s2 _ _ upd_same) h2 ⟨_, rfl, iteF (next G2 (eN.trans (LamX.ExtN.of sA)) (T1.ext sA))⟩
/-- [w, repr(the name in slot i)] -/
theorem due_read {w : Str} {i : Nat} {v : V} {e : PyData} {σ : L2.St} {H1 : Hp} {Q' : VK} (hv : σ[i]? = some (some v)) (od : OdV H1 v e) (q : ∀ p2 G2, Same H1 G2 → G2 p2 = some (outL w e) → Q' (.ref p2) G2) :
    tLst (tCons (tC (V.str w)) (tCons (tCB rReprR (tCons (tVar i) tNil)) tNil)) σ H1 Q' :=
  ⟨v, hv, v, e, rfl, od.2, (odd_ok od.1).1, by show 2 ≤ sizeLine; decide, fun p2 hp2 => q p2 _ (same_up hp2) upd_same⟩
end Pl

namespace Pl
open L2 PySem PySem.Spec PyProof.Rows
theorem OdV.lst {H : Hp} {a : Addr} {vs : List V} {ds : List PyData} (m : PyData.list ds ∈ oddL) (h : H a = some (.lst vs)) (f : FlL vs ds) : OdV H (.ref a) (.list ds) := by
  refine ⟨m, .inl ⟨false, a + 1, .lst rfl (Nat.ne_of_lt (Nat.lt_succ_self a)) h ?_⟩⟩
  clear h m
  induction f with
  | nil => exact .nil
  | cons a _ ih => exact .cons a.dv ih
theorem within_hi {i lo hi : Int} (h : hi < i) : within (.int i) lo hi = false := by
  show (decide (lo ≤ i) && decide (i ≤ hi)) = false
  rw [decide_eq_false (by omega : ¬ i ≤ hi), Bool.and_false]
theorem within_lo {i lo hi : Int} (h : i < lo) : within (.int i) lo hi = false := by
  show (decide (lo ≤ i) && decide (i ≤ hi)) = false
  rw [decide_eq_false (by omega : ¬ lo ≤ i), Bool.false_and]
theorem odd_num {n : Nat} (b : n ≤ 7) : PyData.int (n : Int) ∈ oddL := by
  have : n = 0 ∨ n = 1 ∨ n = 2 ∨ n = 3 ∨ n = 4 ∨ n = 5 ∨ n = 6 ∨ n = 7 := by omega
  rcases this with rfl | rfl | rfl | rfl | rfl | rfl | rfl | rfl <;> simp [oddL, List.range_succ]
theorem odd_one {n : Nat} (b : n ≤ 5) : PyData.list [.int (n : Int)] ∈ oddL := by
  have : n = 0 ∨ n = 1 ∨ n = 2 ∨ n = 3 ∨ n = 4 ∨ n = 5 := by omega
  rcases this with rfl | rfl | rfl | rfl | rfl | rfl <;> simp [oddL, List.range_succ]
theorem odd_two {n : Nat} (b : n ≤ 5) : PyData.list [.int 0, .int (n : Int)] ∈ oddL := by
  have : n = 0 ∨ n = 1 ∨ n = 2 ∨ n = 3 ∨ n = 4 ∨ n = 5 := by omega
  rcases this with rfl | rfl | rfl | rfl | rfl | rfl <;> simp [oddL, List.range_succ]
/-- flat values that are refused -/
def Ods (lo hi : Int) (xs : List V) : Prop := ∀ v ∈ xs, ∃ e, Fl v e ∧ e ∈ oddL ∧ within e lo hi = false
theorem ods_nil {lo hi : Int} : Ods lo hi [] := fun v h => by cases h
theorem ods_cons {lo hi : Int} {v : V} {e : PyData} {xs : List V} (f : Fl v e) (m : e ∈ oddL) (n : within e lo hi = false) (t : Ods lo hi xs) : Ods lo hi (v :: xs) := fun u h => by
  rcases List.mem_cons.mp h with h | h
  · rw [h]
    exact ⟨e, f, m, n⟩
  · exact t u h
section
variable {K : PySem.W.Frag} {CN CP : Addr} {H : Hp} {E : XK} {g : Nat → Prop}
theorem ckB_pages {v v2 : V} {e : PyData} (f : Fl v e) (no : within e 1 6 = false) (r : Rais CN v H E) : CkB K CN CP v v2 H E g := ⟨e, ck_odd f no r⟩
theorem ckB_bad {n : Nat} {v : V} {o : Option (List PyData)} (n1 : 1 ≤ n) (n5 : n ≤ 5) (lz : Lz K H v o) (no : ∀ m, m = n → okZ m 1 5 o = false) (r : Rais CP v H E) : CkB K CN CP (.int n) v H E g :=
  ⟨_, ck_int (by omega) (by omega) fun m em _ _ => ⟨o, lz, (fun ok => by
    rw [no m (by injection em with em; omega)] at ok
    cases ok), fun _ => r⟩⟩
theorem okZ_ok {n : Nat} {bs : List Nat} {lo hi : Int} (l1 : lo ≤ (bs.length : Int)) (l4 : (bs.length : Int) ≤ hi) (hb : ∀ b ∈ bs, b < n) : okZ n lo hi (some (bs.map fun (n : Nat) => PyData.int (n : Int))) = true := by
  show (sized lo hi _ && _) = true
  rw [Bool.and_eq_true]
  refine ⟨?_, List.all_eq_true.mpr fun d hd => ?_⟩
  · unfold sized
    rw [List.length_map, decide_eq_true l1, decide_eq_true l4]
    rfl
  · obtain ⟨b, hb2, rfl⟩ := List.mem_map.mp hd
    have := hb b hb2
    exact within_yes (by omega) (by omega)
theorem ckB_ok {n : Nat} {a : Addr} {bs : List Nat} (n1 : 1 ≤ n) (n5 : n ≤ 5) (ha : H a = some (.lst (nV bs))) (l1 : 1 ≤ bs.length) (l4 : bs.length ≤ 4) (hb : ∀ b ∈ bs, b < n) (h : ∀ m, m = n → g m) : CkB K CN CP (.int n) (.ref a) H E g :=
  ⟨_, ck_int (by omega) (by omega) fun m em _ _ => by
    have e : m = n := by
      injection em with em
      omega
    subst e
    exact ⟨_, .lst ha (FlL.ints bs) (by rw [nV_len]; omega), fun _ => h _ rfl, fun no => by
      rw [okZ_ok (by omega) (by omega) hb] at no
      cases no⟩⟩
end
def spRefused (Tb : TbL) : Sp := fun vs H Q _ => ∃ (n : Nat) (a : Addr) (bs : List Nat), vs = [.int n, .ref a] ∧ 1 ≤ n ∧ n ≤ 5 ∧ H a = some (.lst (nV bs)) ∧ 1 ≤ bs.length ∧ bs.length ≤ 4 ∧ (∀ b ∈ bs, b < n) ∧ LamX.Tabs Tb H ∧ ∀ H', LamX.ExtN H H' → LamX.Tabs Tb H' → Q (.bl true) H'
abbrev nR : List Str := ["_law_size", "_law_begins", "_law_odd"]
theorem FlL.rep (k : Nat) : FlL (List.replicate k (V.int 0)) (List.replicate k (PyData.int 0)) := by
  induction k with
  | zero => exact .nil
  | succ k ih => exact .cons (.int 0) ih
theorem if_triedL {K : PySem.W.Frag} {Tb : TbL} {c : Two} {C : Addr} {t : XK → TE} {tR : TE} {xs : List V} {e : PyData} {w : Str} {σ : L2.St} {G : Hp} {D : Ends} (hw : c.is_ w (.ref C)) (hT : LamX.Tabs Tb G)
    (raise : ∀ (E : XK) (H1 : Hp) (Q' : VK), LamX.ExtN G H1 → (∀ l, H1 l = none → Rais C (.ref l) (upd H1 l (.lst xs)) E) → t E σ H1 Q') (od : ∀ (H1 : Hp) l, H1 l = some (.lst xs) → OdV H1 (.ref l) e)
    (right : ∀ (H1 : Hp) (Q' : VK), LamX.ExtN G H1 → (∀ p2 G2, Same H1 G2 → G2 p2 = some (outL w e) → Q' (.ref p2) G2) → tR σ H1 Q')
    (next : ∀ G', LamX.ExtN G G' → LamX.Tabs Tb G' → D.nx σ G') : tIfS (tTest (tOp (rNeD K) (LamX.tLam Tb (TTr c) t) tR)) (tRet (tC (V.bl false))) tNext D σ G := by
  refine ⟨hT, fun H1 eN T1 => raise _ H1 _ eN fun l hl dd H' s' hd => ⟨dd, .ref l, e, w, hw, rfl, hd, od _ _ (s' _ _ upd_same), fun p hp => ?_⟩⟩
  have s0 : Same H1 (upd H1 l (.lst xs)) := same_up hl
  have me := (od _ _ (s' _ _ upd_same)).1
  refine right _ _ (eN.trans (LamX.ExtN.of ((s0.trans s').trans (same_up hp)))) fun p2 G2 s2 h2 => ?_
  have sA := ((s0.trans s').trans (same_up (o := outL w e) hp)).trans s2
  exact ne_lists (Two.word hw) me (s2 _ _ upd_same) h2 ⟨_, rfl, iteF (next G2 (eN.trans (LamX.ExtN.of sA)) (T1.ext sA))⟩
theorem ext_at {H G : Hp} {a : Addr} {xs : List V} (x : LamX.ExtN H G) (h : H a = some (.lst xs)) : G a = some (.lst xs) := x _ _ h fun _ q => by cases q

section
variable {P : Program} {K : PySem.W.Frag} {w : World} {base : Heap} {mg : Str → Option Value} {c : Two} {cd Pt : Addr} {Tb : TbL}
theorem scRefused : FnScope nR ["_law_size", "_law_begins"] (defScope sRefused) := ⟨rfl, rfl, rfl, by decide +kernel, rfl, by decide +kernel, by decide +kernel⟩
theorem ok_refused {f gT : Addr} {fd fdT : FuncData} (F : FunC K "_law_refused" "_law_refused" sRefused f cd fd) (T : Cst mg) (S : Tri K mg c) (TB : LamX.TabB base mg cd Pt) (hmT : (Pt, lam1) ∈ Tb) (huT : ∀ p ∈ Tb, p.1 = Pt → p.2 = lam1) (FT : Fun K "_law_tried" "_law_tried" sTried gT fdT) (mT : mg "_law_tried" = some (.ref gT)) (bT : Binds K fdT ["_law_call"] [])
    (DL : DfX P w K mg base 5 "least_moves" ps3 (spLeast K c.n c.p)) (DM : DfX P w K mg base 5 "most_missed" ps4 (spMost K c.n c.p)) : FnG P w K mg base 8 f fd ["_law_size", "_law_begins"] (spRefused Tb) := by
  obtain ⟨oc, od, kV, doc, pm, an, cdv, ct, osl, rfl, lT, hcT⟩ := FT.ex
  have kT := FT.kp
  obtain ⟨gL, fdL, GL, mL, kL, bL⟩ := DL.ex
  obtain ⟨gM, fdM, GM, mM, kM, bM⟩ := DM.ex
  refine okC F scRefused (fun vs H Q E h => ?_) (fun A outer s H vs Q E hgd hr h => ?_)
  · obtain ⟨n, a, bs, rfl, _⟩ := h
    rfl
  · obtain ⟨n, a, bs, rfl, n1, n5, ha, l1, l4, hb, hT, q⟩ := h
    have hu : (A.deeper (envOfC "_law_refused" (defScope sRefused) ‹Shared›.heap.objs.size f (.ref cd))).units + 64 < cLine := by
      have := hr.un
      omega
    have hun : (A.deeper (envOfC "_law_refused" (defScope sRefused) ‹Shared›.heap.objs.size f (.ref cd))).units + 128 < cLine := by
      have := hr.un
      omega
    refine ⟨_, pss_cons (ps_for PassesOwn.never rfl (pi_list (pe_lst (pa_cons pe_non (pa_cons pe_int (pa_cons pe_int (pa_cons pe_bl pa_nil)))))) (pg_name (i := 2) scRefused.nd rfl (Or.inr rfl))
        (pss_cons (ps_if (pt_cmpR (op_neD hu) (LamX.pe_lamcall (x := "_law_tried") (a := "_law_call") (T := Tb) (TT := TTr c) (k := 5) (by rfl) mT kT lT hcT bT scTried rfl (Or.inl rfl) (tried_gives hgd hun T S) TB rfl hmT huT hr (show LamX.LamS (defScope sRefused) _ from LamX.lamS_by (by decide +kernel)) rfl (fun _ _ _ _ _ => rfl) (fun A outer s H E f c' hr2 => pe_call (E := E) GL (hr2.mono (by decide)) (by rfl) mL kL bL .nil (passes_call (takes_of rfl rfl rfl rfl) fun _ _ _ _ h => h) (pa_cons (pv 2) (pa_cons pe_non (pa_cons pe_non pa_nil)))))
          (pe_lst (pa_cons pe_str (pa_cons (pe_callB (call_reprR hgd hu) (by rfl) T.rpr (by decide +kernel) (pa_cons (pv 2) pa_nil)) pa_nil))) (nomark _)) (pss_one (ps_ret pe_bl)) pss_nil)
        (pss_one (ps_if (pt_cmpR (op_neD hu) (LamX.pe_lamcall (x := "_law_tried") (a := "_law_call") (T := Tb) (TT := TTr c) (k := 5) (by rfl) mT kT lT hcT bT scTried rfl (Or.inl rfl) (tried_gives hgd hun T S) TB rfl hmT huT hr (show LamX.LamS (defScope sRefused) _ from LamX.lamS_by (by decide +kernel)) rfl (fun _ _ _ _ _ => rfl) (fun A outer s H E f c' hr2 => pe_call (E := E) GM (hr2.mono (by decide)) (by rfl) mM kM bM .nil (passes_call (takes_of rfl rfl rfl rfl) fun _ _ _ _ h => h) (pa_cons (pv 2) (pa_cons pe_non (pa_cons pe_non (pa_cons pe_non pa_nil))))))
          (pe_lst (pa_cons pe_str (pa_cons (pe_callB (call_reprR hgd hu) (by rfl) T.rpr (by decide +kernel) (pa_cons (pv 2) pa_nil)) pa_nil))) (nomark _)) (pss_one (ps_ret pe_bl)) pss_nil))))
      (pss_cons (ps_for PassesOwn.never rfl (pi_list (pe_lst (pa_cons pe_non (pa_cons pe_int (pa_cons (pe_lst pa_nil) (pa_cons (pe_lst (pa_cons (pv 0) pa_nil)) (pa_cons (pe_lst (pa_cons pe_bl pa_nil)) (pa_cons (pe_op op_rep (pe_lst (pa_cons pe_int pa_nil)) pe_int) (pa_cons pe_str (pa_cons (pe_disp (pps_cons pe_int pe_int pps_nil) (by rfl) (by rfl) (fun z => by cases z) (by decide)) (pa_cons (pe_lst (pa_cons pe_int (pa_cons pe_non pa_nil))) pa_nil))))))))))) (pg_name (i := 2) scRefused.nd rfl (Or.inr rfl))
        (pss_cons (ps_if (pt_cmpR (op_neD hu) (LamX.pe_lamcall (x := "_law_tried") (a := "_law_call") (T := Tb) (TT := TTr c) (k := 5) (by rfl) mT kT lT hcT bT scTried rfl (Or.inl rfl) (tried_gives hgd hun T S) TB rfl hmT huT hr (show LamX.LamS (defScope sRefused) _ from LamX.lamS_by (by decide +kernel)) rfl (fun _ _ _ _ _ => rfl) (fun A outer s H E f c' hr2 => pe_call (E := E) GL (hr2.mono (by decide)) (by rfl) mL kL bL .nil (passes_call (takes_of rfl rfl rfl rfl) fun _ _ _ _ h => h) (pa_cons (pv 0) (pa_cons (pv 2) (pa_cons pe_non pa_nil)))))
          (pe_lst (pa_cons pe_str (pa_cons (pe_callB (call_reprR hgd hu) (by rfl) T.rpr (by decide +kernel) (pa_cons (pv 2) pa_nil)) pa_nil))) (nomark _)) (pss_one (ps_ret pe_bl)) pss_nil)
        (pss_one (ps_if (pt_cmpR (op_neD hu) (LamX.pe_lamcall (x := "_law_tried") (a := "_law_call") (T := Tb) (TT := TTr c) (k := 5) (by rfl) mT kT lT hcT bT scTried rfl (Or.inl rfl) (tried_gives hgd hun T S) TB rfl hmT huT hr (show LamX.LamS (defScope sRefused) _ from LamX.lamS_by (by decide +kernel)) rfl (fun _ _ _ _ _ => rfl) (fun A outer s H E f c' hr2 => pe_call (E := E) GM (hr2.mono (by decide)) (by rfl) mM kM bM .nil (passes_call (takes_of rfl rfl rfl rfl) fun _ _ _ _ h => h) (pa_cons (pv 0) (pa_cons (pv 2) (pa_cons pe_non (pa_cons pe_non pa_nil))))))
          (pe_lst (pa_cons pe_str (pa_cons (pe_callB (call_reprR hgd hu) (by rfl) T.rpr (by decide +kernel) (pa_cons (pv 2) pa_nil)) pa_nil))) (nomark _)) (pss_one (ps_ret pe_bl)) pss_nil))))
      (pss_cons (ps_for PassesOwn.never rfl (pi_list (pe_lst (pa_cons pe_non (pa_cons (pv 0) (pa_cons (pe_op op_sub pe_int pe_int) (pa_cons pe_bl (pa_cons pe_str pa_nil))))))) (pg_name (i := 2) scRefused.nd rfl (Or.inr rfl))
        (pss_cons (ps_if (pt_cmpR (op_neD hu) (LamX.pe_lamcall (x := "_law_tried") (a := "_law_call") (T := Tb) (TT := TTr c) (k := 5) (by rfl) mT kT lT hcT bT scTried rfl (Or.inl rfl) (tried_gives hgd hun T S) TB rfl hmT huT hr (show LamX.LamS (defScope sRefused) _ from LamX.lamS_by (by decide +kernel)) rfl (fun _ _ _ _ _ => rfl) (fun A outer s H E f c' hr2 => pe_call (E := E) GL (hr2.mono (by decide)) (by rfl) mL kL bL .nil (passes_call (takes_of rfl rfl rfl rfl) fun _ _ _ _ h => h) (pa_cons (pv 0) (pa_cons (pv 1) (pa_cons (pv 2) pa_nil)))))
          (pe_lst (pa_cons pe_str (pa_cons (pe_callB (call_reprR hgd hu) (by rfl) T.rpr (by decide +kernel) (pa_cons (pv 2) pa_nil)) pa_nil))) (nomark _)) (pss_one (ps_ret pe_bl)) pss_nil)
        (pss_one (ps_if (pt_cmpR (op_neD hu) (LamX.pe_lamcall (x := "_law_tried") (a := "_law_call") (T := Tb) (TT := TTr c) (k := 5) (by rfl) mT kT lT hcT bT scTried rfl (Or.inl rfl) (tried_gives hgd hun T S) TB rfl hmT huT hr (show LamX.LamS (defScope sRefused) _ from LamX.lamS_by (by decide +kernel)) rfl (fun _ _ _ _ _ => rfl) (fun A outer s H E f c' hr2 => pe_call (E := E) GM (hr2.mono (by decide)) (by rfl) mM kM bM .nil (passes_call (takes_of rfl rfl rfl rfl) fun _ _ _ _ h => h) (pa_cons (pv 0) (pa_cons (pv 1) (pa_cons (pe_lst (pa_cons pe_int (pa_cons (pv 2) pa_nil))) (pa_cons pe_non pa_nil))))))
          (pe_lst (pa_cons pe_str (pa_cons (pe_callB (call_reprR hgd hu) (by rfl) T.rpr (by decide +kernel) (pa_cons (pe_lst (pa_cons pe_int (pa_cons (pv 2) pa_nil))) pa_nil)) pa_nil))) (nomark _)) (pss_one (ps_ret pe_bl)) pss_nil))))
      (pss_cons (ps_for PassesOwn.never rfl (pi_list (pe_lst (pa_cons pe_non (pa_cons (pe_op op_sub pe_int pe_int) (pa_cons pe_bl (pa_cons pe_str pa_nil)))))) (pg_name (i := 2) scRefused.nd rfl (Or.inr rfl))
        (pss_one (ps_if (pt_cmpR (op_neD hu) (LamX.pe_lamcall (x := "_law_tried") (a := "_law_call") (T := Tb) (TT := TTr c) (k := 5) (by rfl) mT kT lT hcT bT scTried rfl (Or.inl rfl) (tried_gives hgd hun T S) TB rfl hmT huT hr (show LamX.LamS (defScope sRefused) _ from LamX.lamS_by (by decide +kernel)) rfl (fun _ _ _ _ _ => rfl) (fun A outer s H E f c' hr2 => pe_call (E := E) GM (hr2.mono (by decide)) (by rfl) mM kM bM .nil (passes_call (takes_of rfl rfl rfl rfl) fun _ _ _ _ h => h) (pa_cons (pv 0) (pa_cons (pv 1) (pa_cons (pe_lst pa_nil) (pa_cons (pv 2) pa_nil))))))
          (pe_lst (pa_cons pe_str (pa_cons (pe_callB (call_reprR hgd hu) (by rfl) T.rpr (by decide +kernel) (pa_cons (pv 2) pa_nil)) pa_nil))) (nomark _)) (pss_one (ps_ret pe_bl)) pss_nil)))
      (pss_one (ps_ret (pe_cmpR (op_eqD hu) (LamX.pe_lamcall (x := "_law_tried") (a := "_law_call") (T := Tb) (TT := TTr c) (k := 5) (by rfl) mT kT lT hcT bT scTried rfl (Or.inl rfl) (tried_gives hgd hun T S) TB rfl hmT huT hr (show LamX.LamS (defScope sRefused) _ from LamX.lamS_by (by decide +kernel)) rfl (fun _ _ _ _ _ => rfl) (fun A outer s H E f c' hr2 => pe_call (E := E) GM (hr2.mono (by decide)) (by rfl) mM kM bM .nil (passes_call (takes_of rfl rfl rfl rfl) fun _ _ _ _ h => h) (pa_cons (pv 0) (pa_cons (pv 1) (pa_cons (pe_op op_rep (pe_lst (pa_cons pe_int pa_nil)) pe_int) (pa_cons pe_int pa_nil))))))
          (pe_lst (pa_cons pe_str (pa_cons (pe_callB (call_reprR hgd hu) (by rfl) T.rpr (by decide +kernel) (pa_cons (pe_op op_rep (pe_lst (pa_cons pe_int pa_nil)) pe_int) pa_nil)) pa_nil))) (nomark _))))))), ?_⟩
    refine ⟨by show 4 ≤ sizeLine; decide, fun p1 hp1 => ⟨p1, rfl, ⟨_, SqL.of upd_same⟩, ?_⟩⟩
    generalize hB1 : upd _ p1 _ = B1
    have sB1 : Same H B1 := by rw [← hB1]; exact same_up hp1
    have fB1 : B1 p1 = some (.lst [.non, .int 0, .int 7, .bl true]) := by rw [← hB1]; exact upd_same
    have tB1 := hT.ext sB1
    have ods1 : Ods 1 6 [.non, .int 0, .int 7, .bl true] := ods_cons .non (by simp [oddL]) rfl (ods_cons (.int 0) (odd_num (n := 0) (by decide)) (within_lo (by decide)) (ods_cons (.int 7) (odd_num (n := 7) (by decide)) (within_hi (by decide)) (ods_cons (.bl true) (by simp [oddL]) rfl ods_nil)))
    refine for_list (K := K) (a := p1) (xs := [.non, .int 0, .int 7, .bl true]) (fun i σ G => (∃ x2, σ = [some (.int n), some (.ref a), x2]) ∧ LamX.ExtN B1 G ∧ LamX.Tabs Tb G) ⟨⟨_, rfl⟩, LamX.ExtN.refl _, tB1⟩ (fun i σ G _ h => SqL.of (ext_at h.2.1 fB1)) ?_ ?_
    · rintro i v σ G hv ⟨⟨x2, rfl⟩, e1, t1⟩
      obtain ⟨e, f, m, nn⟩ := ods1 v (List.mem_of_getElem? hv)
      refine if_tried (K := K) (w := "count") (C := c.n) (e := e) (v := v) (.inl ⟨rfl, rfl⟩) t1 (fun E H1 Q' _ r => ⟨v, rfl, v, .non, .non, rfl, ckB_pages f nn r⟩) (fun H1 _ => .fl m f) (fun H1 Q' _ q' => due_read rfl (.fl m f) q') fun G1 e2 t2 => ?_
      exact if_tried (K := K) (w := "count") (C := c.n) (e := e) (v := v) (.inl ⟨rfl, rfl⟩) t2 (fun E H1 Q' _ r => ⟨v, rfl, v, .non, .non, .non, rfl, ckB_pages f nn r⟩) (fun H1 _ => .fl m f) (fun H1 Q' _ q' => due_read rfl (.fl m f) q') fun G2 e3 t3 => ⟨⟨_, rfl⟩, (e1.trans e2).trans e3, t3⟩
    rintro σ G1 ⟨⟨x2, rfl⟩, e1, t1⟩
    have E1 := (LamX.ExtN.of sB1).trans e1
    refine ⟨by show 0 ≤ sizeLine; decide, fun l1' hl1 => ?_⟩
    generalize hA1 : upd _ l1' _ = A1
    have s1 : Same G1 A1 := by rw [← hA1]; exact same_up hl1
    have f1 : A1 l1' = some (.lst []) := by rw [← hA1]; exact upd_same
    refine ⟨_, rfl, by show 1 ≤ sizeLine; decide, fun l2 hl2 => ?_⟩
    generalize hA2 : upd _ l2 _ = A2
    have s2 : Same A1 A2 := by rw [← hA2]; exact same_up hl2
    have f2 : A2 l2 = some (.lst [.int n]) := by rw [← hA2]; exact upd_same
    refine ⟨by show 1 ≤ sizeLine; decide, fun l3 hl3 => ?_⟩
    generalize hA3 : upd _ l3 _ = A3
    have s3 : Same A2 A3 := by rw [← hA3]; exact same_up hl3
    have f3 : A3 l3 = some (.lst [.bl true]) := by rw [← hA3]; exact upd_same
    refine ⟨by show 1 ≤ sizeLine; decide, fun l4' hl4 => ?_⟩
    generalize hA4 : upd _ l4' _ = A4
    have s4 : Same A3 A4 := by rw [← hA4]; exact same_up hl4
    have f4 : A4 l4' = some (.lst [.int 0]) := by rw [← hA4]; exact upd_same
    refine ⟨l4', 6, _, rfl, rfl, f4, by decide, by decide, by decide +kernel, fun l5 hl5 => ?_⟩
    generalize hA5 : upd _ l5 _ = A5
    have s5 : Same A4 A5 := by rw [← hA5]; exact same_up hl5
    have f5 : A5 l5 = some (.lst (List.replicate 6 (.int 0))) := by rw [← hA5]; exact upd_same
    refine fun d hd => ⟨upd_same, [(Sum.inl 0, .int 0)], rfl, by show 1 ≤ 15; decide, ?_⟩
    rw [upd_upd]
    generalize hA6 : upd _ d _ = A6
    have s6 : Same A5 A6 := by rw [← hA6]; exact same_up hd
    have f6 : A6 d = some (.dK [(Sum.inl 0, .int 0)]) := by rw [← hA6]; exact upd_same
    refine ⟨by show 2 ≤ sizeLine; decide, fun l7 hl7 => ?_⟩
    generalize hA7 : upd _ l7 _ = A7
    have s7 : Same A6 A7 := by rw [← hA7]; exact same_up hl7
    have f7 : A7 l7 = some (.lst [.int 0, .non]) := by rw [← hA7]; exact upd_same
    refine ⟨by show 9 ≤ sizeLine; decide, fun p2 hp2 => ⟨p2, rfl, ⟨_, SqL.of upd_same⟩, ?_⟩⟩
    generalize hB2 : upd _ p2 _ = B2
    have s8 : Same A7 B2 := by rw [← hB2]; exact same_up hp2
    have fB2 : B2 p2 = some (.lst [.non, .int 5, .ref l1', .ref l2, .ref l3, .ref l5, .str "0", .ref d, .ref l7]) := by rw [← hB2]; exact upd_same
    have g7 := s8 _ _ f7
    have g6 := s8 _ _ (s7 _ _ f6)
    have g5 := s8 _ _ (s7 _ _ (s6 _ _ f5))
    have g3 := s8 _ _ (s7 _ _ (s6 _ _ (s5 _ _ (s4 _ _ f3))))
    have g2 := s8 _ _ (s7 _ _ (s6 _ _ (s5 _ _ (s4 _ _ (s3 _ _ f2)))))
    have g1 := s8 _ _ (s7 _ _ (s6 _ _ (s5 _ _ (s4 _ _ (s3 _ _ (s2 _ _ f1))))))
    have sB2 : Same G1 B2 := ((((((s1.trans s2).trans s3).trans s4).trans s5).trans s6).trans s7).trans s8
    have ways : ∀ v ∈ [V.non, .int 5, .ref l1', .ref l2, .ref l3, .ref l5, .str "0", .ref d, .ref l7], ∃ e o, (∀ H1, LamX.ExtN B2 H1 → OdV H1 v e ∧ Lz K H1 v o) ∧ ∀ m, m = n → okZ m 1 5 o = false := by
      intro v hv
      simp only [List.mem_cons, List.not_mem_nil, or_false] at hv
      rcases hv with rfl | rfl | rfl | rfl | rfl | rfl | rfl | rfl | rfl
      · exact ⟨.none, none, fun H1 _ => ⟨.fl (by simp [oddL]) .non, .no (fun _ _ => .base .non) (kit_ty (show kitB "NoneType" "list" = some false from by decide +kernel)) (kit_ty (show kitB "NoneType" "tuple" = some false from by decide +kernel))⟩, fun _ _ => rfl⟩
      · exact ⟨.int 5, none, fun H1 _ => ⟨.fl (odd_num (n := 5) (by decide)) (.int _), .no (fun _ _ => .base (.int 5)) (kit_ty (show kitB "int" "list" = some false from by decide +kernel)) (kit_ty (show kitB "int" "tuple" = some false from by decide +kernel))⟩, fun _ _ => rfl⟩
      · exact ⟨.list [], some [], fun H1 x => ⟨.lst (by simp [oddL]) (ext_at x g1) .nil, .lst (ext_at x g1) .nil (by decide)⟩, fun _ _ => rfl⟩
      · refine ⟨.list [.int n], some [.int n], fun H1 x => ⟨.lst (odd_one n5) (ext_at x g2) (.cons (.int _) .nil), .lst (ext_at x g2) (.cons (.int _) .nil) (by show 1 ≤ 100; decide)⟩, fun m em => ?_⟩
        subst em
        show (sized 1 5 [PyData.int (m : Int)] && (within (.int (m : Int)) 0 ((m : Int) - 1) && true)) = false
        rw [within_hi (by omega), Bool.false_and, Bool.and_false]
      · exact ⟨.list [.bool true], some [.bool true], fun H1 x => ⟨.lst (by simp [oddL]) (ext_at x g3) (.cons (.bl _) .nil), .lst (ext_at x g3) (.cons (.bl _) .nil) (by show 1 ≤ 100; decide)⟩, fun _ _ => rfl⟩
      · exact ⟨.list (List.replicate 6 (.int 0)), some (List.replicate 6 (.int 0)), fun H1 x => ⟨.lst (by simp [oddL]) (ext_at x g5) (FlL.rep 6), .lst (ext_at x g5) (FlL.rep 6) (by decide +kernel)⟩, fun _ _ => rfl⟩
      · exact ⟨.str "0", none, fun H1 _ => ⟨.fl (by simp [oddL]) (.str _), .no (fun _ _ => .base (.str _)) (kit_ty (show kitB "str" "list" = some false from by decide +kernel)) (kit_ty (show kitB "str" "tuple" = some false from by decide +kernel))⟩, fun _ _ => rfl⟩
      · exact ⟨.dict [(.int 0, .int 0)], none, fun H1 x => ⟨⟨by simp [oddL], .inr ⟨d, rfl, rfl, x _ _ g6 fun _ q => by cases q⟩⟩, .no (fun G sG => .base (.dK (sG _ _ (x _ _ g6 fun _ q => by cases q)))) (kit_ty (show kitB "dict" "list" = some false from by decide +kernel)) (kit_ty (show kitB "dict" "tuple" = some false from by decide +kernel))⟩, fun _ _ => rfl⟩
      · refine ⟨.list [.int 0, .none], some [.int 0, .none], fun H1 x => ⟨.lst (by simp [oddL]) (ext_at x g7) (.cons (.int _) (.cons .non .nil)), .lst (ext_at x g7) (.cons (.int _) (.cons .non .nil)) (by show 2 ≤ 100; decide)⟩, fun m _ => ?_⟩
        show (sized 1 5 [PyData.int 0, .none] && (within (.int 0) 0 ((m : Int) - 1) && (false && true))) = false
        rw [Bool.false_and, Bool.and_false, Bool.and_false]
    refine for_list (K := K) (a := p2) (xs := [.non, .int 5, .ref l1', .ref l2, .ref l3, .ref l5, .str "0", .ref d, .ref l7]) (fun i σ G => (∃ x2, σ = [some (.int n), some (.ref a), x2]) ∧ LamX.ExtN B2 G ∧ LamX.Tabs Tb G) ⟨⟨_, rfl⟩, LamX.ExtN.refl _, t1.ext sB2⟩ (fun i σ G _ h => SqL.of (ext_at h.2.1 fB2)) ?_ ?_
    · rintro i v σ G hv ⟨⟨x2, rfl⟩, e2, t2⟩
      obtain ⟨e, o, hod, hno⟩ := ways v (List.mem_of_getElem? hv)
      refine if_tried (K := K) (w := "page") (C := c.p) (e := e) (v := v) (.inr ⟨rfl, rfl⟩) t2 (fun E H1 Q' x r => ⟨_, rfl, v, rfl, _, v, .non, rfl, ckB_bad n1 n5 (hod H1 (e2.trans x)).2 hno r⟩) (fun H1 x => (hod H1 (e2.trans x)).1) (fun H1 Q' x q' => due_read rfl (hod H1 (e2.trans x)).1 q') fun G3 e3 t3 => ?_
      exact if_tried (K := K) (w := "page") (C := c.p) (e := e) (v := v) (.inr ⟨rfl, rfl⟩) t3 (fun E H1 Q' x r => ⟨_, rfl, v, rfl, _, v, .non, .non, rfl, ckB_bad n1 n5 (hod H1 ((e2.trans e3).trans x)).2 hno r⟩) (fun H1 x => (hod H1 ((e2.trans e3).trans x)).1) (fun H1 Q' x q' => due_read rfl (hod H1 ((e2.trans e3).trans x)).1 q') fun G4 e4 t4 => ⟨⟨_, rfl⟩, (e2.trans e3).trans e4, t4⟩
    rintro σ G3 ⟨⟨x2, rfl⟩, e2, t2⟩
    have E3 := (E1.trans (LamX.ExtN.of sB2)).trans e2
    refine ⟨_, rfl, _, _, rfl, rfl, by show 5 ≤ sizeLine; decide, fun p3 hp3 => ⟨p3, rfl, ⟨_, SqL.of upd_same⟩, ?_⟩⟩
    generalize hB3 : upd _ p3 _ = B3
    have sB3 : Same G3 B3 := by rw [← hB3]; exact same_up hp3
    have fB3 : B3 p3 = some (.lst [.non, .int n, .int (0 - 1), .bl true, .str "0"]) := by rw [← hB3]; exact upd_same
    have ha3 := ext_at (E3.trans (LamX.ExtN.of sB3)) ha
    have ods3 : ∀ v ∈ [V.non, .int n, .int (0 - 1), .bl true, .str "0"], ∃ e, Fl v e ∧ e ∈ oddL ∧ PyData.list [.int 0, e] ∈ oddL ∧ within e 0 ((n : Int) - 1) = false := by
      intro v hv
      simp only [List.mem_cons, List.not_mem_nil, or_false] at hv
      rcases hv with rfl | rfl | rfl | rfl | rfl
      · exact ⟨.none, .non, by simp [oddL], by simp [oddL], rfl⟩
      · exact ⟨.int n, .int _, odd_num (by omega), odd_two n5, within_hi (by omega)⟩
      · exact ⟨.int (-1), (show ((0 : Int) - 1) = -1 from by decide) ▸ Fl.int (-1), by simp [oddL], by simp [oddL], within_lo (by decide)⟩
      · exact ⟨.bool true, .bl _, by simp [oddL], by simp [oddL], rfl⟩
      · exact ⟨.str "0", .str _, by simp [oddL], by simp [oddL], rfl⟩
    refine for_list (K := K) (a := p3) (xs := [.non, .int n, .int (0 - 1), .bl true, .str "0"]) (fun i σ G => (∃ x2, σ = [some (.int n), some (.ref a), x2]) ∧ LamX.ExtN B3 G ∧ LamX.Tabs Tb G) ⟨⟨_, rfl⟩, LamX.ExtN.refl _, t2.ext sB3⟩ (fun i σ G _ h => SqL.of (ext_at h.2.1 fB3)) ?_ ?_
    · rintro i v σ G hv ⟨⟨x2, rfl⟩, e3, t3⟩
      obtain ⟨e, f, m, m2, nn⟩ := ods3 v (List.mem_of_getElem? hv)
      refine if_tried (K := K) (w := "page") (C := c.p) (e := e) (v := v) (.inr ⟨rfl, rfl⟩) t3 (fun E H1 Q' x r => ⟨_, rfl, _, rfl, v, rfl, _, _, v, rfl, ckB_ok n1 n5 (ext_at (e3.trans x) ha3) l1 l4 hb fun k ek => ⟨e, ck_odd f (by rw [ek]; exact nn) r⟩⟩) (fun H1 _ => .fl m f) (fun H1 Q' _ q' => due_read rfl (.fl m f) q') fun G4 e4 t4 => ?_
      refine if_triedL (K := K) (w := "page") (C := c.p) (e := .list [.int 0, e]) (xs := [.int 0, v]) (.inr ⟨rfl, rfl⟩) t4 (fun E H1 Q' x r => ⟨_, rfl, _, rfl, v, rfl, by show 2 ≤ sizeLine; decide, fun l hl => ⟨_, _, .ref l, .non, rfl, ckB_ok n1 n5 (same_up hl _ _ (ext_at ((e3.trans e4).trans x) ha3)) l1 l4 hb fun k ek => ⟨some [.int 0, e], .lst upd_same (.cons (.int 0) (.cons f .nil)) (by show 2 ≤ 100; decide), (fun _ => r l hl), fun ok => ?_⟩⟩⟩) (fun H1 l hl => .lst m2 hl (.cons (.int 0) (.cons f .nil))) (fun H1 Q' x q' => ⟨v, rfl, by show 2 ≤ sizeLine; decide, fun l hl => ⟨_, _, rfl, (OdV.lst m2 upd_same (.cons (.int 0) (.cons f .nil))).2, (odd_ok m2).1, by show 2 ≤ sizeLine; decide, fun p2 hp2 => q' p2 _ ((same_up hl).trans (same_up hp2)) upd_same⟩⟩) fun G5 e5 t5 => ⟨⟨_, rfl⟩, (e3.trans e4).trans e5, t5⟩
      rw [ek] at ok
      have ok : (sized 0 20 [PyData.int 0, e] && (within (.int 0) 0 ((n : Int) - 1) && (within e 0 ((n : Int) - 1) && true))) = true := ok
      rw [nn, Bool.false_and, Bool.and_false, Bool.and_false] at ok
      cases ok
    rintro σ G4 ⟨⟨x2, rfl⟩, e3, t3⟩
    have E4 := (E3.trans (LamX.ExtN.of sB3)).trans e3
    refine ⟨_, _, rfl, rfl, by show 4 ≤ sizeLine; decide, fun p4 hp4 => ⟨p4, rfl, ⟨_, SqL.of upd_same⟩, ?_⟩⟩
    generalize hB4 : upd _ p4 _ = B4
    have sB4 : Same G4 B4 := by rw [← hB4]; exact same_up hp4
    have fB4 : B4 p4 = some (.lst [.non, .int (0 - 1), .bl true, .str "1"]) := by rw [← hB4]; exact upd_same
    have ha4 := ext_at (E4.trans (LamX.ExtN.of sB4)) ha
    have ods4 : ∀ v ∈ [V.non, .int (0 - 1), .bl true, .str "1"], ∃ e, Fl v e ∧ e ∈ oddL ∧ cntB e = false := by
      intro v hv
      simp only [List.mem_cons, List.not_mem_nil, or_false] at hv
      rcases hv with rfl | rfl | rfl | rfl
      · exact ⟨.none, .non, by simp [oddL], rfl⟩
      · exact ⟨.int (-1), (show ((0 : Int) - 1) = -1 from by decide) ▸ Fl.int (-1), by simp [oddL], rfl⟩
      · exact ⟨.bool true, .bl _, by simp [oddL], rfl⟩
      · exact ⟨.str "1", .str _, by simp [oddL], rfl⟩
    refine for_list (K := K) (a := p4) (xs := [.non, .int (0 - 1), .bl true, .str "1"]) (fun i σ G => (∃ x2, σ = [some (.int n), some (.ref a), x2]) ∧ LamX.ExtN B4 G ∧ LamX.Tabs Tb G) ⟨⟨_, rfl⟩, LamX.ExtN.refl _, t3.ext sB4⟩ (fun i σ G _ h => SqL.of (ext_at h.2.1 fB4)) ?_ ?_
    · rintro i v σ G hv ⟨⟨x2, rfl⟩, e4, t4⟩
      obtain ⟨e, f, m, nn⟩ := ods4 v (List.mem_of_getElem? hv)
      refine if_tried (K := K) (w := "count") (C := c.n) (e := e) (v := v) (.inl ⟨rfl, rfl⟩) t4 (fun E H1 Q' x r => ⟨_, rfl, _, rfl, by show 0 ≤ sizeLine; decide, fun l hl => ⟨v, rfl, _, _, .ref l, v, rfl, ckB_ok n1 n5 (same_up hl _ _ (ext_at (e4.trans x) ha4)) l1 l4 hb fun k ek => ⟨some [], .lst upd_same .nil (by decide), (fun no => by cases no), fun _ => ⟨e, f, (fun _ => r.same (same_up hl)), fun yes => by rw [nn] at yes; cases yes⟩⟩⟩⟩) (fun H1 _ => .fl m f) (fun H1 Q' _ q' => due_read rfl (.fl m f) q') fun G5 e5 t5 => ⟨⟨_, rfl⟩, e4.trans e5, t5⟩
    rintro σ G5 ⟨⟨x2, rfl⟩, e4, t4⟩
    have E5 := (E4.trans (LamX.ExtN.of sB4)).trans e4
    have ha5 := ext_at E5 ha
    have m21 : PyData.list (List.replicate 21 (.int 0)) ∈ oddL := by simp [oddL]
    refine ⟨t4, fun H1 eN T1 => ⟨_, rfl, _, rfl, by show 1 ≤ sizeLine; decide, fun l0 hl0 => ?_⟩⟩
    have u1 := same_up (o := .lst [.int 0]) hl0
    have w1 : upd H1 l0 (.lst [.int 0]) l0 = some (.lst [.int 0]) := upd_same
    refine ⟨l0, 21, _, rfl, rfl, w1, by decide, by decide, by decide +kernel, fun l hl => ?_⟩
    generalize hA8 : upd (upd H1 l0 (.lst [.int 0])) l _ = A8
    have u2 : Same (upd H1 l0 (.lst [.int 0])) A8 := by rw [← hA8]; exact same_up hl
    have w2 : A8 l = some (.lst (List.replicate 21 (.int 0))) := by rw [← hA8]; exact upd_same
    have u12 := u1.trans u2
    refine ⟨_, _, .ref l, .int 0, rfl, ckB_ok n1 n5 (u12 _ _ (ext_at eN ha5)) l1 l4 hb fun k ek => ⟨some (List.replicate 21 (.int 0)), .lst w2 (FlL.rep 21) (by decide +kernel), (fun _ dd H' s' hd => ?_), fun ok => by cases ok⟩⟩
    refine ⟨dd, .ref l, _, "page", .inr ⟨rfl, rfl⟩, rfl, hd, OdV.lst m21 (s' _ _ w2) (FlL.rep 21), fun p hp => ?_⟩
    have s9 := same_up (o := outL "page" (.list (List.replicate 21 (.int 0)))) hp
    have w9 : upd H' p (outL "page" (.list (List.replicate 21 (.int 0)))) p = some (outL "page" (.list (List.replicate 21 (.int 0)))) := upd_same
    generalize upd H' p (outL "page" (.list (List.replicate 21 (.int 0)))) = A9 at s9 w9 ⊢
    refine ⟨by show 1 ≤ sizeLine; decide, fun l8 hl8 => ?_⟩
    have u3 := same_up (o := .lst [.int 0]) hl8
    have w3 : upd A9 l8 (.lst [.int 0]) l8 = some (.lst [.int 0]) := upd_same
    refine ⟨l8, 21, _, rfl, rfl, w3, by decide, by decide, by decide +kernel, fun l9 hl9 => ?_⟩
    generalize hA10 : upd (upd A9 l8 (.lst [.int 0])) l9 _ = A10
    have u4 : Same (upd A9 l8 (.lst [.int 0])) A10 := by rw [← hA10]; exact same_up hl9
    have w4 : A10 l9 = some (.lst (List.replicate 21 (.int 0))) := by rw [← hA10]; exact upd_same
    refine ⟨_, _, rfl, (OdV.lst m21 w4 (FlL.rep 21)).2, (odd_ok m21).1, by show 2 ≤ sizeLine; decide, fun p5 hp5 => ?_⟩
    have u5 := same_up (o := outL "page" (.list (List.replicate 21 (.int 0)))) hp5
    have sA := ((((u12.trans s').trans s9).trans u3).trans u4).trans u5
    exact eq_lists (by simp [wordL]) m21 (u5 _ _ (u4 _ _ (u3 _ _ w9))) upd_same (q _ ((E5.trans eN).trans (LamX.ExtN.of sA)) (T1.ext sA))

end
end Pl

namespace Pl
open L2 PySem PySem.Spec PyProof.Rows
/-- the least cost rises at every second visit at most -/
def Slow (t : Int) (cs : Cs) : Prop := ∀ m, minO cs = some m → 2 * m ≤ t ∨ (2 * m ≤ t + 1 ∧ ∃ a b : Nat, a ≠ b ∧ cs[a]? = some (some m) ∧ cs[b]? = some (some m))
theorem slow_visit {cs : Cs} {t : Int} {i n : Nat} (hn : cs.length = n) (n3 : 3 ≤ n) (h : Slow t cs) : Slow (t + 1) (visit cs false i) := by
  intro m' hm'
  cases em : minO cs with
  | none =>
    rw [dead_visit em] at hm'
    cases hm'
  | some m =>
    obtain ⟨mi, ml⟩ := minO_some.mp em
    have e : visit cs false i = (cs.map (up1 m)).set i none := by
      unfold visit kill sprd
      rw [em]
      rfl
    rw [e] at hm' ⊢
    obtain ⟨h1, h2⟩ := minO_some.mp hm'
    have at_ : ∀ (j : Nat) (c : Option Int), j ≠ i → cs[j]? = some c → ((cs.map (up1 m)).set i none)[j]? = some (up1 m c) := fun j c ne hc => by
      rw [List.getElem?_set, if_neg fun z => ne z.symm, List.getElem?_map, hc]
      rfl
    by_cases hB : ∃ j, j ≠ i ∧ cs[j]? = some (some m)
    · obtain ⟨j, ne, hj⟩ := hB
      have h3 := at_ j _ ne hj
      have h4 : up1 m (some m) = some m := by
        show some (if m > m + 1 then m + 1 else m) = some m
        rw [if_neg (by omega)]
      rw [h4] at h3
      have h5 := h2 m (List.mem_of_getElem? h3)
      rcases h m em with g | ⟨g, _⟩
      · exact .inl (by omega)
      · exact .inl (by omega)
    · have g : 2 * m ≤ t := by
        rcases h m em with g | ⟨_, a, b, ne, ha, hb⟩
        · exact g
        · by_cases ai : a = i
          · exact absurd ⟨b, fun z => ne (ai.trans z.symm), hb⟩ hB
          · exact absurd ⟨a, ai, ha⟩ hB
      have all : ∀ (j : Nat), j ≠ i → j < n → ((cs.map (up1 m)).set i none)[j]? = some (some (m + 1)) := fun j ne lt => by
        have hc : cs[j]? = some cs[j] := List.getElem?_eq_getElem (by omega)
        rw [at_ j _ ne hc]
        cases ec : cs[j]'(by omega) with
        | none => rfl
        | some x =>
          rw [ec] at hc
          have h3 := ml x (List.mem_of_getElem? hc)
          have h4 : x ≠ m := fun z => hB ⟨j, ne, z ▸ hc⟩
          show some (some (if x > m + 1 then m + 1 else x)) = _
          by_cases z : x > m + 1
          · rw [if_pos z]
          · rw [if_neg z, show x = m + 1 by omega]
      have em' : m' = m + 1 := by
        obtain ⟨k, lt, hk⟩ := List.mem_iff_getElem.mp h1
        have hk2 : ((cs.map (up1 m)).set i none)[k]? = some (some m') := by rw [List.getElem?_eq_getElem lt, hk]
        have lt2 : k < n := by
          have l3 := lt
          rw [List.length_set, List.length_map, hn] at l3
          exact l3
        by_cases ki : k = i
        · subst ki
          rw [List.getElem?_set_self (by rw [List.length_map, hn]; exact lt2)] at hk2
          cases hk2
        · rw [all k ki lt2] at hk2
          injection hk2 with hk2
          injection hk2 with hk2
          exact hk2.symm
      subst em'
      refine .inr ⟨by omega, ?_⟩
      by_cases i0 : i = 0
      · exact ⟨1, 2, by decide, all 1 (by omega) (by omega), all 2 (by omega) (by omega)⟩
      · by_cases i1 : i = 1
        · exact ⟨0, 2, by decide, all 0 (by omega) (by omega), all 2 (by omega) (by omega)⟩
        · exact ⟨0, 1, by decide, all 0 (by omega) (by omega), all 1 (by omega) (by omega)⟩
theorem slow_run {n : Nat} (n3 : 3 ≤ n) : ∀ (is : List Nat) {cs : Cs} {t : Int}, cs.length = n → Slow t cs → Slow (t + is.length) (runC cs false is) := fun is => by
  induction is with
  | nil =>
    intro cs t _ h
    rw [List.length_nil]
    show Slow (t + ((0 : Nat) : Int)) cs
    simpa using h
  | cons i is ih =>
    intro cs t hn h
    have := ih (visit_len.trans hn) (slow_visit (i := i) hn n3 h)
    rw [List.length_cons, show t + ((is.length + 1 : Nat) : Int) = t + 1 + (is.length : Int) by push_cast; omega]
    exact this
theorem least_le {n s : Nat} {bs : List Nat} (n5 : n ≤ 5) (l4 : bs.length ≤ 4) {m : Int} (h : least n bs s = some m) : m ≤ 16 := by
  unfold least at h
  have hm := (minO_some.mp h).1
  have hv := visits_len n bs
  by_cases n4 : n ≤ 4
  · have := bound_run (visits n bs) (B := 0) (fun x hx => Int.le_of_eq (cs0_zero x hx)) m hm
    have h2 : bs.length * n ≤ 4 * 4 := Nat.mul_le_mul l4 n4
    omega
  · have h2 : bs.length * n ≤ 4 * 5 := Nat.mul_le_mul l4 n5
    cases ev : visits n bs with
    | nil =>
      rw [ev] at hm
      have := cs0_zero m hm
      omega
    | cons i is =>
      rw [ev] at h hv
      rw [List.length_cons] at hv
      have s1 : Slow 1 (visit (cs0 n s) true i) := fun k hk => by
        have h3 := (minO_some.mp hk).1
        unfold visit kill at h3
        rcases List.mem_or_eq_of_mem_set h3 with e | e
        · have := cs0_zero k e
          exact .inl (by omega)
        · cases e
      have := slow_run (n := n) (by omega) is (visit_len.trans (cs0_len n s)) s1 m h
      rcases this with g | ⟨g, _⟩ <;> omega
theorem least_pos {n s : Nat} {bs : List Nat} {m : Int} (h : least n bs s = some m) : 0 ≤ m := by
  unfold least at h
  exact nonneg_run (visits n bs) (fun x hx => Int.le_of_eq (cs0_zero x hx).symm) m (minO_some.mp h).1
theorem sum_le {l : List Int} (h : ∀ x ∈ l, x ≤ 16) : l.sum ≤ 16 * (l.length : Int) := by
  induction l with
  | nil => simp
  | cons x l ih =>
    have := ih fun y hy => h y (List.mem_cons_of_mem _ hy)
    have := h x List.mem_cons_self
    rw [List.sum_cons, List.length_cons]; skip
    push_cast
    omega
end Pl

namespace Pl
open L2 PySem PySem.Spec PyProof.Rows
structure DfG (P : Program) (w : World) (K : PySem.W.Frag) (mg : Str → Option Value) (base : Heap) (k : Nat) (x : Str) (ps : List Str) (sp : Sp) : Prop where
  ex : ∃ (f : Addr) (fd : FuncData), FnG P w K mg base k f fd ps sp ∧ mg x = some (.ref f) ∧ PySem.W.keepIn K (.ref f) = true ∧ Binds K fd ps []
def spLaw (K : PySem.W.Frag) (Tb : TbL) : Sp := fun vs H Q _ => ∃ (a : Addr) (ns : List Int), vs = [.ref a] ∧ SqL K H a (ns.map V.int) ∧ LamX.Tabs Tb H ∧ ∀ H', Q (.bl true) H'
theorem tabs_but {z : Addr} {Tb : TbL} {H G : Hp} (b : But z H G) (s : Src z H) (t : LamX.Tabs Tb H) : LamX.Tabs Tb G := by
  obtain ⟨x, y, hz, _⟩ := s
  intro p hp
  obtain ⟨ps, h1, h2, h3⟩ := t p hp
  have n1 : p.1 ≠ z := fun e => by
    rw [e, hz] at h1
    cases h1
  refine ⟨ps, b _ _ n1 trivial h1, h2, fun pos cv hc => ?_⟩
  obtain ⟨c, e1, e2⟩ := h3 pos cv hc; skip
  have n2 : c ≠ z := fun e => by
    rw [e, hz] at e2
    cases e2
  exact ⟨c, e1, b _ _ n2 trivial e2⟩
theorem ext_but {z : Addr} {H G F : Hp} (e : LamX.ExtN H G) (hz : ∀ b o, H b = some o → (∀ ps, o ≠ .tbl ps) → b ≠ z) (b : But z G F) : LamX.ExtN H F := fun c o h n => b c o (hz c o h n) trivial (e c o h n)
theorem sql_ext {K : PySem.W.Frag} {H G : Hp} {a : Addr} {xs : List V} (e : LamX.ExtN H G) (h : SqL K H a xs) : SqL K G a xs := by
  rcases h with (h | ⟨o, h⟩) | h; skip
  · exact .inl (.inl (e _ _ h fun _ q => by cases q))
  · exact .inl (.inr ⟨o, e _ _ h fun _ q => by cases q⟩)
  · exact .inr h
theorem Src.ext {z : Addr} {H G : Hp} (h : Src z H) (e : LamX.ExtN H G) : Src z G := by
  obtain ⟨x, y, hz, r⟩ := h
  exact ⟨x, y, e _ _ hz (fun _ q => by cases q), r⟩
theorem Src.same {z : Addr} {H G : Hp} (h : Src z H) (e : Same H G) : Src z G := h.ext (LamX.ExtN.of e)
def rTupOf (K : PySem.W.Frag) : List V → Hp → VK → Prop := fun xs H Q => ∃ p ys, xs = [.ref p] ∧ ((SqL K H p ys ∧ ∀ l, H l = none → Q (.ref l) (upd H l (.tup ys))) ∨ (SqT K H p ys ∧ Q (.ref p) H))
/-- so many draws lie in the list at D -/
def Drawn (z D : Addr) (n : Nat) (G : Hp) (j : Nat) (F : Hp) : Prop := ∃ bs : List Nat, bs.length = j ∧ (∀ b ∈ bs, b < n) ∧ But z G F ∧ Src z F ∧ F D = some (.lst (nV bs))
theorem Drawn.start {z D : Addr} {n : Nat} {G : Hp} (hD : G D = none) (hz : Src z G) : Drawn z D n G 0 (upd G D (.lst [])) :=
  ⟨[], rfl, (fun b hb => by cases hb), But.new hD, hz.same (same_up hD), upd_same⟩
theorem Drawn.next {z D : Addr} {n j : Nat} {G F F2 : Hp} {t : Int} (h : Drawn z D n G j F) (hD : G D = none) (Dz : D ≠ z) (t0 : 0 ≤ t) (t1 : t < (n : Int)) (b : But z F F2) (s : Src z F2) (l : j ≤ 100) : ∃ acc, F2 D = some (.lst acc) ∧ acc.length < sizeLine ∧ Drawn z D n G (j + 1) (upd F2 D (.lst (acc ++ [.int t]))) := by
  obtain ⟨bs, lb, hb, bF, zF, hF⟩ := h
  obtain ⟨k, rfl⟩ : ∃ k : Nat, t = k := ⟨t.toNat, by omega⟩
  refine ⟨_, b _ _ Dz trivial hF, by rw [nV_len]; exact small1000 (by omega), bs ++ [k], by rw [List.length_append, lb]; rfl, fun x hx => ?_, fun c o hc n0 ho => ?_, ?_, by rw [upd_same, nV_snoc]⟩
  · rcases List.mem_append.mp hx with hx | hx; skip
    · exact hb x hx
    · rw [List.mem_singleton.mp hx]
      omega
  · rw [upd_ne (ne_of_none ho hD)]
    exact (bF.trans b) c o hc n0 ho
  · obtain ⟨x, y, e, r⟩ := s
    exact ⟨x, y, (upd_ne (Ne.symm Dz)).trans e, r⟩
theorem ckB_of {K : PySem.W.Frag} {CN CP : Addr} {H : Hp} {E : XK} {g : Nat → Prop} {n : Nat} {v : V} {bs : List Nat} (n1 : 1 ≤ n) (n5 : n ≤ 5) (lz : Lz K H v (some (bs.map fun (n : Nat) => PyData.int (n : Int)))) (l1 : 1 ≤ bs.length) (l4 : bs.length ≤ 4) (hb : ∀ b ∈ bs, b < n) (h : g n) : CkB K CN CP (.int n) v H E g :=
  ⟨_, ck_int (by omega) (by omega) fun m em _ _ => by
    have e : m = n := by
      injection em with em
      omega
    subst e
    exact ⟨_, lz, fun _ => h, fun no => by
      rw [okZ_ok (by omega) (by omega) hb] at no
      cases no⟩⟩
theorem rI0_to {g : Int → Int → V} {i j : Int} {v : V} {H : Hp} {Q : VK} (e : g i j = v) (q : Q v H) : rI0 g (.int i) (.int j) H Q := ⟨i, j, rfl, rfl, e ▸ q⟩
theorem zadd (j : Nat) : V.int (0 + (j : Int)) = V.int (j : Nat) := congrArg V.int (Int.zero_add _)
theorem due_at {n p : Nat} {bs : List Nat} (h : p < n) : ((List.range n).map (least n bs))[p]? = some (least n bs p) := by
  rw [List.getElem?_map, List.getElem?_range h]
  rfl
theorem some_len {n : Nat} {bs : List Nat} : ∀ ps : List Nat, (ps.filter fun p => (least n bs p).isSome).length = (somes (ps.map (least n bs))).length
  | [] => rfl
  | p :: ps => by
    have ih := some_len (n := n) (bs := bs) ps
    rw [List.filter_cons, List.map_cons]
    cases e : least n bs p with
    | none =>
      rw [if_neg (by decide), ih]
      rfl
    | some x =>
      rw [if_pos (by rfl), List.length_cons, ih]
      rfl
theorem optL_range {n : Nat} {bs : List Nat} (j : Nat) : optL ((List.range (j + 1)).map (least n bs)) = optL ((List.range j).map (least n bs)) ++ [optI (least n bs j)] := by
  rw [List.range_succ, List.map_append, List.map_singleton, optL_snoc]
/-- a turn of the lists of least moves -/
theorem least_turn {D : Addr} {n j : Nat} {bs : List Nat} {G F F2 : Hp} (hD : G D = none) (s : Same G F) (h : F D = some (.lst (optL ((List.range j).map (least n bs))))) (s2 : Same F F2) (l : j ≤ 100) : ∃ acc, F2 D = some (.lst acc) ∧ acc.length < sizeLine ∧ (Same G (upd F2 D (.lst (acc ++ [optI (least n bs j)]))) ∧ upd F2 D (.lst (acc ++ [optI (least n bs j)])) D = some (.lst (optL ((List.range (j + 1)).map (least n bs))))) := by
  refine ⟨_, s2 _ _ h, ?_, fun b o hb => ?_, by rw [upd_same, optL_range]⟩
  · rw [optL_len, List.length_map, List.length_range]
    exact small1000 (by omega)
  · rw [upd_ne (ne_of_none hb hD)]
    exact s2 _ _ (s b o hb)
section
variable {P : Program} {w : World} {K : PySem.W.Frag} {mg : Str → Option Value} {base : Heap} {CN CP : Addr} {Tb : TbL}
abbrev nW : List Str := ["_law_script", "_law_k", "_law_source", "_law_size", "_law_turn", "_law_begins", "_law_due", "_law_spots", "_law_count", "_law_spot", "_law_one"]
theorem scLaw : FnScope nW ["_law_script"] (defScope sLaw) := ⟨rfl, rfl, rfl, by decide +kernel, rfl, by decide +kernel, by decide +kernel⟩
theorem ok_law {f : Addr} {fd : FuncData} (F : Fun K "law" "law" sLaw f fd) (T : Cst mg) (DP : Df P w K mg base 1 "_law_pool" ["_law_script", "_law_k"] (spPool K)) (DT : Df P w K mg base 1 "_law_take" ["_law_source", "_law_top"] spTake)
    (DL : Df P w K mg base 2 "_law_least" psLL spLLeast) (DLM : DfX P w K mg base 5 "least_moves" ps3 (spLeast K CN CP)) (DMM : DfX P w K mg base 5 "most_missed" ps4 (spMost K CN CP)) (DM : Df P w K mg base 1 "_law_most" ["_law_costs", "_law_count"] spLMost)
    (DR : DfG P w K mg base 8 "_law_refused" ["_law_size", "_law_begins"] (spRefused Tb)) : FnG P w K mg base 9 f fd ["_law_script"] (spLaw K Tb) := by
  obtain ⟨gP, fdP, GP, mP, kP, bP⟩ := DP.ex
  obtain ⟨gT, fdT, GT, mT, kT, bT⟩ := DT.ex
  obtain ⟨gL, fdL, GL, mL, kL, bL⟩ := DL.ex
  obtain ⟨gA, fdA, GA, mA, kA, bA⟩ := DLM.ex
  obtain ⟨gB, fdB, GB, mB, kB, bB⟩ := DMM.ex
  obtain ⟨gM, fdM, GM, mM, kM, bM⟩ := DM.ex
  obtain ⟨gR, fdR, GR, mR, kR, bR⟩ := DR.ex
  refine okG F scLaw (fun vs H Q E h => ?_) (fun cdv A outer s H vs Q E hgd hr h => ?_)
  · obtain ⟨a, ns, rfl, _⟩ := h
    rfl
  · obtain ⟨a, ns, rfl, hS, hT, q⟩ := h
    have hu : (A.deeper (envOfC "law" (defScope sLaw) s.heap.objs.size f cdv)).units + 64 < cLine := by
      have := hr.un
      omega
    refine ⟨_, pss_cons (ps_for PassesOwn.never rfl (pi_range1 rfl T.rng (pa_cons (pe_callB (call_max2 rfl) (by rfl) T.max_ (by decide +kernel) (pa_cons pe_int (pa_cons (pe_callB (call_min2 rfl) (by rfl) T.min_ (by decide +kernel) (pa_cons pe_int (pa_cons (pe_callB call_len_seq (by rfl) T.len PySem.boot_len (pa_cons (pv 0) pa_nil)) pa_nil))) pa_nil))) pa_nil)) (pg_name (i := 1) scLaw.nd rfl (Or.inl rfl))
        (pss_cons (ps_set (i := 2) scLaw.nd rfl (Or.inr rfl) (pe_call GP (hr.mono (by decide)) (by rfl) mP kP bP .nil pass0 (pa_cons (pv 0) (pa_cons (pv 1) pa_nil))))
        (pss_cons (ps_set (i := 3) scLaw.nd rfl (Or.inr rfl) (pe_op op_add pe_int (pe_call GT (hr.mono (by decide)) (by rfl) mT kT bT .nil pass0 (pa_cons (pv 2) (pa_cons pe_int pa_nil)))))
        (pss_cons (ps_set (i := 5) scLaw.nd rfl (Or.inr rfl) (pe_lc (own := [("_law_turn", 4)]) (g := gName 4) (tt := tYes) rfl scLaw.nd (pi_range1 (by rfl) T.rng (pa_cons (pe_op op_add pe_int (pe_call GT (hr.mono (by decide)) (by rfl) mT kT bT .nil pass0 (pa_cons (pv 2) (pa_cons pe_int pa_nil)))) pa_nil)) (blkOk_by (own := [("_law_turn", 4)]) (N := nW) (sc := defScope sLaw) (by decide +kernel))
            (fun _ _ _ _ _ => pg_name (i := 4) scLaw.nd rfl (Or.inl rfl)) (fun _ _ _ _ _ => pts_nil) (fun _ _ _ _ _ => pe_call GT (hr.mono (by decide)) (by rfl) mT kT bT .nil pass0 (pa_cons (pv 2) (pa_cons (pv 3) pa_nil)))))
        (pss_cons (ps_set (i := 6) scLaw.nd rfl (Or.inr rfl) (pe_lc (own := [("_law_spot", 9)]) (g := gName 9) (tt := tYes) rfl scLaw.nd (pi_range1 (by rfl) T.rng (pa_cons (pv 3) pa_nil)) (blkOk_by (own := [("_law_spot", 9)]) (N := nW) (sc := defScope sLaw) (by decide +kernel))
            (fun _ _ _ _ _ => pg_name (i := 9) scLaw.nd rfl (Or.inl rfl)) (fun _ _ _ _ _ => pts_nil) (fun _ _ _ _ _ => pe_call GL (hr.mono (by decide)) (by rfl) mL kL bL .nil pass0 (pa_cons (pv 3) (pa_cons (pv 5) (pa_cons (pv 9) pa_nil))))))
        (pss_cons (ps_if (pt_cmpR (op_neD hu) (pe_lc (own := [("_law_spot", 9)]) (g := gName 9) (tt := tYes) rfl scLaw.nd (pi_range1 (by rfl) T.rng (pa_cons (pv 3) pa_nil)) (blkOk_by (own := [("_law_spot", 9)]) (N := nW) (sc := defScope sLaw) (by decide +kernel))
            (fun _ _ _ _ _ => pg_name (i := 9) scLaw.nd rfl (Or.inl rfl)) (fun _ _ _ _ _ => pts_nil) (fun _ _ _ _ _ => pe_call (E := fun _ _ _ => False) GA (hr.mono (by decide)) (by rfl) mA kA bA .nil (passes_call takes0 fun _ _ _ _ h => h) (pa_cons (pv 3) (pa_cons (pv 5) (pa_cons (pv 9) pa_nil))))) (pv 6) (nomark _)) (pss_one (ps_ret pe_bl)) pss_nil)
        (pss_cons (ps_if (pt_cmpR (op_neD hu) (pe_lc (own := [("_law_spot", 9)]) (g := gName 9) (tt := tYes) rfl scLaw.nd (pi_range1 (by rfl) T.rng (pa_cons (pv 3) pa_nil)) (blkOk_by (own := [("_law_spot", 9)]) (N := nW) (sc := defScope sLaw) (by decide +kernel))
            (fun _ _ _ _ _ => pg_name (i := 9) scLaw.nd rfl (Or.inl rfl)) (fun _ _ _ _ _ => pts_nil) (fun _ _ _ _ _ => pe_call (E := fun _ _ _ => False) GA (hr.mono (by decide)) (by rfl) mA kA bA .nil (passes_call takes0 fun _ _ _ _ h => h) (pa_cons (pv 3) (pa_cons (pe_callTy (show CallR _ (.type "tuple") (rTupOf K) from call_tuple_of) (by rfl) T.ttup (by decide +kernel) (pa_cons (pv 5) pa_nil)) (pa_cons (pv 9) pa_nil))))) (pv 6) (nomark _)) (pss_one (ps_ret pe_bl)) pss_nil)
        (pss_cons (ps_for PassesOwn.never rfl (pi_range1 rfl T.rng (pa_cons pe_int pa_nil)) (pg_name (i := 4) scLaw.nd rfl (Or.inl rfl))
          (pss_cons (ps_setLc (i := 7) (own := [("_law_one", 10)]) (g := gName 10) (tt := tYes) rfl scLaw.nd rfl rfl (sw_true rfl rfl rfl (by decide +kernel)) (pi_range1 rfl T.rng (pa_cons (pe_call GT (hr.mono (by decide)) (by rfl) mT kT bT .nil pass0 (pa_cons (pv 2) (pa_cons pe_int pa_nil))) pa_nil)) (blkOk_by (own := [("_law_one", 10)]) (N := nW) (sc := defScope sLaw) (by decide +kernel))
            (fun _ _ _ _ _ => pg_name (i := 10) scLaw.nd rfl (Or.inl rfl)) (fun _ _ _ _ _ => pts_nil) (fun _ _ _ _ _ => pe_call GT (hr.mono (by decide)) (by rfl) mT kT bT .nil pass0 (pa_cons (pv 2) (pa_cons (pv 3) pa_nil))))
          (pss_cons (ps_set (i := 8) scLaw.nd rfl (Or.inl rfl) (pe_call GT (hr.mono (by decide)) (by rfl) mT kT bT .nil pass0 (pa_cons (pv 2) (pa_cons pe_int pa_nil))))
          (pss_cons (ps_if (pt_cmpR op_ne (pe_call (E := fun _ _ _ => False) GB (hr.mono (by decide)) (by rfl) mB kB bB .nil (passes_call takes0 fun _ _ _ _ h => h) (pa_cons (pv 3) (pa_cons (pv 5) (pa_cons (pv 7) (pa_cons (pv 8) pa_nil)))))
              (pe_call GM (hr.mono (by decide)) (by rfl) mM kM bM .nil pass0 (pa_cons (pe_lc (own := [("_law_spot", 9)]) (g := gName 9) (tt := tYes) rfl scLaw.nd (pi_list (pv 7)) (blkOk_by (own := [("_law_spot", 9)]) (N := nW) (sc := defScope sLaw) (by decide +kernel))
                (fun _ _ _ _ _ => pg_name (i := 9) scLaw.nd rfl (Or.inl rfl)) (fun _ _ _ _ _ => pts_nil) (fun _ _ _ _ _ => pe_ix (show IxR _ (rIxL K) from ix_list) (pv 6) (pv 9) (fun _ _ => rfl))) (pa_cons (pv 8) pa_nil))) (nomark _)) (pss_one (ps_ret pe_bl)) pss_nil)
          (pss_one (ps_if (pt_cmpR op_ne (pe_call (E := fun _ _ _ => False) GB (hr.mono (by decide)) (by rfl) mB kB bB .nil (passes_call takes0 fun _ _ _ _ h => h) (pa_cons (pv 3) (pa_cons (pv 5) (pa_cons (pe_callTy call_tuple_of (by rfl) T.ttup (by decide +kernel) (pa_cons (pv 7) pa_nil)) (pa_cons pe_int pa_nil)))))
              (pe_callB call_len_seq (by rfl) T.len PySem.boot_len (pa_cons (pe_lc (own := [("_law_spot", 9)]) (g := gName 9) (tt := _) rfl scLaw.nd (pi_list (pv 7)) (blkOk_by (own := [("_law_spot", 9)]) (N := nW) (sc := defScope sLaw) (by decide +kernel))
                (fun _ _ _ _ _ => pg_name (i := 9) scLaw.nd rfl (Or.inl rfl)) (fun _ _ _ _ _ => pts_one (pt_cmpR op_notN (pe_ix (show IxR _ (rIxL K) from ix_list) (pv 6) (pv 9) (fun _ _ => rfl)) pe_non (nomark _))) (fun _ _ _ _ _ => pv 9)) pa_nil)) (nomark _)) (pss_one (ps_ret pe_bl)) pss_nil))))))
        (pss_one (ps_if (pt_not (pt_val (pe_callG GR hgd hr (by rfl) mR kR bR (pa_cons (pv 3) (pa_cons (pv 5) pa_nil))))) (pss_one (ps_ret pe_bl)) pss_nil))))))))))
      (pss_one (ps_ret pe_bl)), ?_⟩
    have hN6 : ∀ L : Int, ∃ N : Nat, N ≤ 6 ∧ (if (if L < 6 then L else 6) > 1 then (if L < 6 then L else 6) else 1) = (N : Int) := fun L => by
      refine ⟨(if (if L < 6 then L else 6) > 1 then (if L < 6 then L else 6) else 1).toNat, ?_, ?_⟩ <;> (split <;> split <;> omega)
    obtain ⟨N, hN, eN⟩ := hN6 ((ns.map V.int).length : Nat)
    refine ⟨_, rfl, a, _, rfl, .inl hS, _, _, rfl, _, _, rfl, ?_⟩
    refine ⟨(N : Int), by rw [eN], by omega, by omega, ?_⟩
    refine for_range (n := N) (fun i σ G => (∃ x1 x2 x3 x4 x5 x6 x7 x8 x9 x10, σ = [some (.ref a), x1, x2, x3, x4, x5, x6, x7, x8, x9, x10]) ∧ LamX.ExtN H G ∧ LamX.Tabs Tb G) ⟨⟨_, _, _, _, _, _, _, _, _, _, rfl⟩, LamX.ExtN.refl _, hT⟩ ?_ ?_
    · rintro i σ G hi ⟨⟨x1, x2, x3, x4, x5, x6, x7, x8, x9, x10, rfl⟩, e1, t1⟩
      refine ⟨_, rfl, _, rfl, a, ns, _, rfl, sql_ext e1 hS, by omega, by omega, fun z G1 nz s1 z1 => ?_⟩
      have nz0 : ∀ b o, H b = some o → (∀ ps, o ≠ .tbl ps) → b ≠ z := fun b o h no => ne_of_none (e1 _ _ h no) nz
      have eG : LamX.ExtN H G1 := e1.trans (LamX.ExtN.of s1)
      have tG := t1.ext s1
      refine ⟨_, rfl, z, 5, rfl, z1, by omega, by omega, fun r G2 r0 r1 b2 z2 => ?_⟩
      have e2 := ext_but eG nz0 b2
      have t2 := tabs_but b2 z1 tG
      obtain ⟨n, hn⟩ : ∃ n : Nat, (1 : Int) + r = n := ⟨(1 + r).toNat, by omega⟩
      have n1 : 1 ≤ n := by omega
      have n5 : n ≤ 5 := by omega
      refine rI0_to (v := V.int (n : Int)) (congrArg V.int hn) ?_
      refine ⟨_, rfl, z, 4, rfl, z2, by omega, by omega, fun r2 G3 p0 p1 b3 z3 => ⟨_, _, rfl, rfl, (1 + r2), rfl, by omega, by omega, fun B hB => ?_⟩⟩
      have e3 := ext_but e2 nz0 b3
      have t3 := tabs_but b3 z2 t2
      obtain ⟨oz, hoz⟩ := z3.some
      have Bz : B ≠ z := (ne_of_none hoz hB).symm
      refine walk_core (walk_range (lo := 0) (n := ((1 : Int) + r2).toNat)) (Drawn z B n G3) (Drawn.start hB z3) (fun _ _ _ _ => trivial) ?_ ?_
      · rintro j y F F' hj hd ⟨rfl, rfl⟩
        have hd2 := hd
        obtain ⟨_, _, _, _, zF, _⟩ := hd2
        exact ⟨rfl, _, rfl, _, rfl, z, (n : Int), rfl, zF, by omega, by omega, fun t F2 u0 u1 b4 z4 => hd.next hB Bz u0 u1 b4 z4 (by omega)⟩
      rintro G4 ⟨bs, lbs, hb, b4, z4, hBs⟩
      have l1 : 1 ≤ bs.length := by omega
      have l4 : bs.length ≤ 4 := by omega
      have e4 := ext_but e3 nz0 b4
      have t4 := tabs_but b4 z3 t3
      refine ⟨_, rfl, n, rfl, by omega, by omega, fun U hU => ?_⟩
      have BU : B ≠ U := ne_of_none hBs hU
      refine walk_core (walk_range (lo := 0) (n := (n : Int).toNat)) (fun j F => Same G4 F ∧ F U = some (.lst (optL ((List.range j).map (least n bs))))) ⟨same_up hU, upd_same⟩ (fun _ _ _ _ => trivial) ?_ ?_
      · rintro j y F F' hj ⟨s5, h5⟩ ⟨rfl, rfl⟩
        have hj : j < n := hj
        exact ⟨rfl, _, rfl, _, rfl, _, rfl, B, n, j, bs, congrArg (fun v => [V.int (n : Int), V.ref B, v]) (zadd j), s5 _ _ hBs, l4, n1, n5, hj, fun F2 s6 => least_turn hU s5 h5 s6 (by omega)⟩
      rintro G5 ⟨s5, h5⟩
      rw [show ((n : Int).toNat) = n from rfl] at h5
      have hB5 := s5 _ _ hBs
      have z5 := z4.same s5
      have e5 := e4.trans (LamX.ExtN.of s5)
      have t5 := t4.ext s5
      generalize hds : (List.range n).map (least n bs) = ds at h5
      refine ⟨_, rfl, n, rfl, by omega, by omega, fun D hD => ?_⟩
      refine walk_core (walk_range (lo := 0) (n := (n : Int).toNat)) (fun j F => Same G5 F ∧ F D = some (.lst (optL ((List.range j).map (least n bs))))) ⟨same_up hD, upd_same⟩ (fun _ _ _ _ => trivial) ?_ ?_
      · rintro j y F F' hj ⟨s6, h6⟩ ⟨rfl, rfl⟩
        have hj : j < n := hj
        exact ⟨rfl, _, rfl, _, rfl, _, rfl, _, _, _, rfl, ckB_of n1 n5 (.lst (s6 _ _ hB5) (FlL.ints bs) (by rw [nV_len]; omega)) l1 l4 hb ⟨_, ck_int (by omega) (by omega) ⟨B, bs, j, rfl, .inl ⟨_, s6 _ _ hB5, rfl⟩, by omega, zadd j, hj, fun F2 s7 => least_turn hD s6 h6 s7 (by omega)⟩⟩⟩
      rintro G6 ⟨s6, h6⟩
      rw [show ((n : Int).toNat) = n from rfl, hds] at h6
      have h56 := s6 _ _ h5
      refine ⟨_, rfl, _, _, .lst (SqL.of h6) (dp_opts _), .lst (SqL.of h56) (dp_opts _), shaped_lo _, shaped_lo _, _, rfl, ?_⟩
      rw [eqv_self (shaped_lo ds)]
      refine iteF ?_
      have hB6 := s6 _ _ hB5
      refine ⟨_, rfl, n, rfl, by omega, by omega, fun D2 hD2 => ?_⟩
      refine walk_core (walk_range (lo := 0) (n := (n : Int).toNat)) (fun j F => Same G6 F ∧ F D2 = some (.lst (optL ((List.range j).map (least n bs))))) ⟨same_up hD2, upd_same⟩ (fun _ _ _ _ => trivial) ?_ ?_
      · rintro j y F F' hj ⟨s7, h7⟩ ⟨rfl, rfl⟩
        have hj : j < n := hj
        refine ⟨rfl, _, rfl, _, rfl, B, _, rfl, .inl ⟨SqL.of (s7 _ _ hB6), fun t ht => ?_⟩⟩
        have st := same_up (o := .tup (nV bs)) ht
        exact ⟨_, rfl, _, _, _, rfl, ckB_of n1 n5 (.tup upd_same (FlL.ints bs) (by rw [nV_len]; omega)) l1 l4 hb ⟨_, ck_int (by omega) (by omega) ⟨t, bs, j, rfl, .inr ⟨_, upd_same, rfl⟩, by omega, zadd j, hj, fun F2 s8 => least_turn hD2 s7 h7 (st.trans s8) (by omega)⟩⟩⟩
      rintro G7 ⟨s7, h7⟩
      rw [show ((n : Int).toNat) = n from rfl, hds] at h7
      have h57 := s7 _ _ h56
      refine ⟨_, rfl, _, _, .lst (SqL.of h7) (dp_opts _), .lst (SqL.of h57) (dp_opts _), shaped_lo _, shaped_lo _, _, rfl, ?_⟩
      rw [eqv_self (shaped_lo ds)]
      refine iteF ?_
      have s57 := s6.trans s7
      have hB7 := s7 _ _ hB6
      have z7 := z5.same s57
      have e7 := e5.trans (LamX.ExtN.of s57)
      have t7 := t5.ext s57
      obtain ⟨oz4, hoz4⟩ := z4.some
      have Uz : U ≠ z := (ne_of_none hoz4 hU).symm
      have dsat : ∀ p, p < n → (optL ds)[p]? = some (optI (least n bs p)) := fun p hp => by
        unfold optL
        rw [← hds, List.getElem?_map, due_at hp]
        rfl
      refine ⟨4, rfl, by decide, by decide, for_range (n := 4) (fun j σ G => (∃ x1 x4 x7 x8 x9 x10, σ = [some (.ref a), x1, some (.ref z), some (.int n), x4, some (.ref B), some (.ref U), x7, x8, x9, x10]) ∧ LamX.ExtN H G ∧ LamX.Tabs Tb G ∧ Src z G ∧ G B = some (.lst (nV bs)) ∧ G U = some (.lst (optL ds))) ⟨⟨_, _, _, _, _, _, rfl⟩, e7, t7, z7, hB7, h57⟩ ?_ ?_⟩
      · rintro j σ F hj ⟨⟨x1, x4, x7, x8, x9, x10, rfl⟩, eF, tF, zF, hBF, hUF⟩
        refine ⟨_, rfl, z, 7, rfl, zF, by omega, by omega, fun r3 G8 v0 v1 b8 z8 => ⟨r3, rfl, by omega, by omega, fun Sp hSp => ?_⟩⟩
        have e8 := ext_but eF nz0 b8
        have t8 := tabs_but b8 zF tF
        obtain ⟨oz8, hoz8⟩ := z8.some
        have Sz : Sp ≠ z := (ne_of_none hoz8 hSp).symm
        have hB8 := b8 _ _ Bz trivial hBF
        have hU8 := b8 _ _ Uz trivial hUF
        refine walk_core (walk_range (lo := 0) (n := r3.toNat)) (Drawn z Sp n G8) (Drawn.start hSp z8) (fun _ _ _ _ => trivial) ?_ ?_
        · rintro j y F F' hj hd ⟨rfl, rfl⟩
          have hd2 := hd
          obtain ⟨_, _, _, _, zF, _⟩ := hd2
          exact ⟨rfl, _, rfl, _, rfl, z, (n : Int), rfl, zF, by omega, by omega, fun t F2 u0 u1 b4 z4 => hd.next hSp Sz u0 u1 b4 z4 (by omega)⟩
        rintro G9 ⟨ps, lps, hps, b9, z9, hS9⟩
        have e9 := ext_but e8 nz0 b9
        have t9 := tabs_but b9 z8 t8
        have lps6 : ps.length ≤ 6 := by omega
        have hB9 := b9 _ _ Bz trivial hB8
        have hU9 := b9 _ _ Uz trivial hU8
        refine ⟨_, rfl, z, 14, rfl, z9, by omega, by omega, fun c G10 c0 c1 b10 z10 => ?_⟩
        have e10 := ext_but e9 nz0 b10
        have t10 := tabs_but b10 z9 t9
        have hB10 := b10 _ _ Bz trivial hB9
        have hU10 := b10 _ _ Uz trivial hU9
        have hS10 := b10 _ _ Sz trivial hS9
        have nonneg : ∀ x ∈ somes (ps.map (least n bs)), 0 ≤ x := fun x hx => by
          obtain ⟨p, _, hp⟩ := List.mem_map.mp (somes_mem.mp hx)
          exact least_pos hp
        have small : ∀ x ∈ somes (ps.map (least n bs)), x ≤ 16 := fun x hx => by
          obtain ⟨p, _, hp⟩ := List.mem_map.mp (somes_mem.mp hx)
          exact least_le n5 l4 hp
        refine ⟨_, rfl, _, rfl, _, rfl, _, rfl, _, _, _, _, rfl, ckB_of n1 n5 (.lst hB10 (FlL.ints bs) (by rw [nV_len]; omega)) l1 l4 hb ⟨_, .lst hS10 (FlL.ints ps) (by rw [nV_len]; omega), (fun no => by
          rw [okZ_ok (by omega) (by omega) hps] at no
          cases no), fun _ => ⟨_, .int c, (fun no => by
          rw [show cntB (.int c) = true from decide_eq_true c0] at no
          cases no), fun _ => ⟨B, Sp, bs, ps, c, rfl, .inl ⟨_, hB10, rfl⟩, by omega, rfl, .inl ⟨_, hS10, rfl⟩, by omega, hps, rfl, c0, fun G11 ms s11 pm so => ?_⟩⟩⟩⟩
        have hS11 := s11 _ _ hS10
        have hU11 := s11 _ _ hU10
        refine ⟨_, rfl, Sp, rfl, ⟨_, SqL.of hS11⟩, fun D3 hD3 => ?_⟩
        refine walk_core (walk_list (K := K) (a := Sp) (xs := nV ps)) (fun j F => Same G11 F ∧ F D3 = some (.lst (optL ((ps.take j).map (least n bs))))) ⟨same_up hD3, upd_same⟩ (fun _ _ _ h => SqL.of (h.1 _ _ hS11)) ?_ ?_
        · rintro j y F F' hj ⟨s12, h12⟩ ⟨rfl, hy⟩
          obtain ⟨p, hp, rfl⟩ := nV_get hy
          have hpn := hps p (List.mem_of_getElem? hp)
          refine ⟨rfl, _, rfl, _, rfl, U, _, _, _, rfl, rfl, SqL.of (s12 _ _ hU11), atI_nat (dsat p hpn), ?_⟩
          refine ⟨_, h12, ?_, fun b o hb => ?_, ?_⟩
          · rw [optL_len, List.length_map, List.length_take]
            exact small1000 (by omega)
          · rw [upd_ne (ne_of_none hb hD3)]
            exact s12 b o hb
          · rw [upd_same, take_snoc hp, List.map_append, List.map_singleton, optL_snoc]
        rintro G12 ⟨s12, h12⟩
        rw [nV_len, List.take_length] at h12
        refine ⟨_, rfl, D3, _, c, rfl, h12, by rw [List.length_map]; omega, fun G13 Bt s13 hBt => ⟨rfl, _, rfl, ?_⟩⟩
        have eBt : Bt = (greedy ms c : Nat) := parts_most pm so nonneg c0 hBt.top hBt.hit
        refine iteF' (by rw [eBt]; simp) ?_
        have s1013 := (s11.trans s12).trans s13
        have hB13 := s1013 _ _ hB10
        have hU13 := s1013 _ _ hU10
        have hS13 := s1013 _ _ hS10
        refine ⟨_, rfl, _, rfl, _, rfl, Sp, _, rfl, .inl ⟨SqL.of hS13, fun t ht => ?_⟩⟩
        have st := same_up (o := .tup (nV ps)) ht
        refine ⟨_, _, _, _, rfl, ckB_of n1 n5 (.lst (st _ _ hB13) (FlL.ints bs) (by rw [nV_len]; omega)) l1 l4 hb ⟨_, .tup upd_same (FlL.ints ps) (by rw [nV_len]; omega), (fun no => by
          rw [okZ_ok (by omega) (by omega) hps] at no
          cases no), fun _ => ⟨_, .int 100, (fun no => by cases no), fun _ => ⟨B, t, bs, ps, 100, rfl, .inl ⟨_, st _ _ hB13, rfl⟩, by omega, rfl, .inr ⟨_, upd_same, rfl⟩, by omega, hps, rfl, by decide, fun G14 ms2 s14 pm2 so2 => ?_⟩⟩⟩⟩
        have s1014 := st.trans s14
        have hS14 := s1014 _ _ hS13
        have hU14 := s1014 _ _ hU13
        refine ⟨_, rfl, Sp, rfl, ⟨_, SqL.of hS14⟩, fun D4 hD4 => ?_⟩
        refine walk_core (walk_list (K := K) (a := Sp) (xs := nV ps)) (fun j F => Same G14 F ∧ F D4 = some (.lst (nV ((ps.take j).filter fun p => (least n bs p).isSome)))) ⟨same_up hD4, upd_same⟩ (fun _ _ _ h => SqL.of (h.1 _ _ hS14)) ?_ ?_
        · rintro j y F F' hj ⟨s15, h15⟩ ⟨rfl, hy⟩
          obtain ⟨p, hp, rfl⟩ := nV_get hy
          have hpn := hps p (List.mem_of_getElem? hp)
          refine ⟨rfl, _, rfl, _, rfl, U, _, _, _, rfl, rfl, SqL.of (s15 _ _ hU14), atI_nat (dsat p hpn), rfl, _, rfl, ?_⟩
          have stp := take_snoc hp
          cases e : least n bs p with
          | none =>
            refine iteF ⟨s15, ?_⟩
            rw [stp, List.filter_append, List.filter_cons_of_neg (by rw [e]; decide), List.filter_nil, List.append_nil]
            exact h15
          | some x =>
            refine iteT ⟨_, rfl, _, h15, ?_, fun b o hb => ?_, ?_⟩
            · have h1 := List.length_filter_le (fun p => (least n bs p).isSome) (ps.take j)
              rw [List.length_take] at h1
              rw [nV_len]
              exact small1000 (by omega)
            · rw [upd_ne (ne_of_none hb hD4)]
              exact s15 b o hb
            · rw [upd_same, stp, List.filter_append, List.filter_cons_of_pos (by rw [e]; rfl), List.filter_nil, nV_snoc]
        rintro G15 ⟨s15, h15⟩
        rw [nV_len, List.take_length] at h15
        refine ⟨D4, _, rfl, .inl (SqL.of h15), rfl, _, rfl, ?_⟩
        have eg : greedy ms2 100 = (nV (ps.filter fun p => (least n bs p).isSome)).length := by
          have h0 : ∀ x ∈ ms2, 0 ≤ x := fun x hx => nonneg x (pm2.mem_iff.mp hx)
          have h16 : ∀ x ∈ ms2, x ≤ 16 := fun x hx => small x (pm2.mem_iff.mp hx)
          have hl := pm2.length_eq
          have hl2 := somes_len (ps.map (least n bs))
          rw [List.length_map] at hl2
          have hs := sum_le h16
          rw [greedy_all h0 (by omega), nV_len, some_len]
          exact hl
        refine iteF' (by rw [eg]; simp) ?_
        have sZ := (s1013.trans s1014).trans s15
        exact ⟨⟨_, _, _, _, _, _, rfl⟩, e10.trans (LamX.ExtN.of sZ), t10.ext sZ, z10.same sZ, sZ _ _ hB10, sZ _ _ hU10⟩
      · rintro σ F ⟨⟨x1, x4, x7, x8, x9, x10, rfl⟩, eF, tF, zF, hBF, hUF⟩
        refine ⟨_, rfl, _, rfl, n, B, bs, rfl, n1, n5, hBF, l1, l4, hb, tF, fun F2 e9 t9 => ⟨_, rfl, iteF ?_⟩⟩
        exact ⟨⟨_, _, _, _, _, _, _, _, _, _, rfl⟩, eF.trans e9, t9⟩
    · rintro σ G ⟨_, e1, t1⟩
      exact q G
end
end Pl

namespace Pl
open L2 PySem PySem.Spec PyProof.Rows
/-- a def of the top, under its name -/
def AtD (K : PySem.W.Frag) (x : Str) (st : Stmt) : Prop := ∃ (f : Addr) (fd : FuncData), PySem.W.nsIn K mainGlobals x = some (some (.ref f)) ∧ Fun K x x st f fd
def tbX (cs : List (Addr × Addr)) (a : Str) : TbL := (cs.map fun q => q.2).zip [a]
theorem tbX1 {c1 P1 : Addr} {a : Str} : tbX [(c1, P1)] a = [(P1, a)] := rfl
def tbOf (cs : List (Addr × Addr)) : TbL := tbX cs lam1
theorem only1 {P1 : Addr} {a : Str} : ∀ t ∈ [(P1, a)], t.1 = P1 → t.2 = a := fun t ht e => by
  rw [List.mem_singleton.mp ht]
theorem all1 {p : Addr × Addr → Prop} {a : Addr × Addr} (h1 : p a) : ∀ q ∈ [a], p q := fun q hq => by
  rw [List.mem_singleton.mp hq]
  exact h1
theorem tbOf_tabs {cs : List (Addr × Addr)} {H : Hp} (h : ∀ q ∈ cs, H q.2 = some (.tbl #[])) : LamX.Tabs (tbOf cs) H := fun p hp => by
  obtain ⟨a, b⟩ := p
  obtain ⟨q, hq, e⟩ := List.mem_map.mp (List.of_mem_zip hp).1
  have e' : q.2 = a := e
  exact LamX.TabS.nil (e' ▸ h q hq)
theorem walkP {l : PySem.W.OpenLaw} {n : Nat} {qp : Program} {loose : List Str} {XP : (Str → Option Value) → Heap → Prop} {YP : World → Heap → Prop} {d : DefRec} {K : Params → PySem.W.Frag}
    (hn : l.most = some n) (hn2 : n ≤ sizeLine) (hdf : d.params.defaults = []) (hY : ∀ (w : World) (h : Heap), YP w h → (K w.params).In h)
    (F : ∀ (w : World) (mg : Str → Option Value) (fa : Addr) (h : Heap), YP w h → (K w.params).In h → h.Ns mainGlobals mg → mg d.name = some (.ref fa) → LawM l w (K w.params) mg fa h 9 (fun cs => spLaw (K w.params) (tbOf cs))) :
    PySem.W.WalkO qp loose XP YP l.row.toRowW d [] (fun f vs => PySem.call f vs) :=
  walkM (sp := fun w cs => spLaw (K w.params) (tbOf cs)) hn hn2 hdf ⟨rfl, by decide, by decide⟩ hY (fun w cs H a ns hH seq => ⟨a, ns, rfl, seq, tbOf_tabs hH, fun _ => rfl⟩) F
theorem all_mk {l : PySem.W.OpenLaw} {w : World} {K : PySem.W.Frag} {h : Heap} {mg : Str → Option Value} {fa : Addr} (X : K.In h) (G : h.Ns mainGlobals mg) (hfa : mg "law" = some (.ref fa))
    {tk1 : Tok} {tk2 tk3 : Tok} {ft1 ct1 Pt1 : Addr} {odt1 ant1 odc1 : Option Addr} {slt1 slc1 : Array (Option Value)} {oct1 kVt1 dct1 pmt1 ctt1 : Value} {vsC1 : Array Value} {C_n fI_n S_n N_n : Addr} {odI_n anI_n dd_n : Option Addr} {slI_n : Array (Option Value)} {ocI_n kVI_n dcI_n pmI_n cdI_n ctI_n : Value} {nm_n q_n : Str} {bs_n sub_n : List Value} {sn_n : List Str} {ab_n : Bool} {col_n : Option Bool} {u0_n u1_n u2_n u3_n u5_n : Option Value} {C_p fI_p S_p N_p : Addr} {odI_p anI_p dd_p : Option Addr} {slI_p : Array (Option Value)} {ocI_p kVI_p dcI_p pmI_p cdI_p ctI_p : Value} {nm_p q_p : Str} {bs_p sub_p : List Value} {sn_p : List Str} {ab_p : Bool} {col_p : Option Bool} {u0_p u1_p u2_p u3_p u5_p : Option Value}
    (A0 : AtD K "is_number" sIsNumber)
    (A1 : AtD K "is_within" sIsWithin)
    (A2 : AtD K "_check_pages" sCkPages)
    (A3 : AtD K "check_page" sCkPage)
    (A4 : AtD K "_check_begins" sCkBegins)
    (A5 : AtD K "_check_listed" sCkListed)
    (A6 : AtD K "_least_moves" sLM)
    (A7 : AtD K "least_moves" sLeast)
    (A8 : AtD K "most_missed" sMost)
    (A9 : AtD K "_law_pool" sPool)
    (A10 : AtD K "_law_take" sTake)
    (A11 : AtD K "_law_tried" sTried)
    (A12 : AtD K "_law_spread" sSpread)
    (A13 : AtD K "_law_least" sLLeast)
    (A14 : AtD K "_law_most" sLMost)
    (A15 : AtD K "law" sLaw)
    (z_isinstance : PySem.W.nsIn K mainGlobals "isinstance" = some none)
    (z_len : PySem.W.nsIn K mainGlobals "len" = some none)
    (z_int : PySem.W.nsIn K mainGlobals "int" = some none)
    (z_bool : PySem.W.nsIn K mainGlobals "bool" = some none)
    (z_list : PySem.W.nsIn K mainGlobals "list" = some none)
    (z_tuple : PySem.W.nsIn K mainGlobals "tuple" = some none)
    (z_range : PySem.W.nsIn K mainGlobals "range" = some none)
    (z_max : PySem.W.nsIn K mainGlobals "max" = some none)
    (z_min : PySem.W.nsIn K mainGlobals "min" = some none)
    (z_repr : PySem.W.nsIn K mainGlobals "repr" = some none)
    (z_enumerate : PySem.W.nsIn K mainGlobals "enumerate" = some none)
    (z_sorted : PySem.W.nsIn K mainGlobals "sorted" = some none)
    (z_all : PySem.W.nsIn K mainGlobals "all" = some none)
    (g_pages : PySem.W.nsIn K mainGlobals "MOST_PAGES" = some (some (.int 6 tk1)))
    (g_walks : PySem.W.nsIn K mainGlobals "MOST_WALKS" = some (some (.int 5 tk2)))
    (g_places : PySem.W.nsIn K mainGlobals "MOST_PLACES" = some (some (.int 20 tk3)))
    (nt1 : PySem.W.nsIn K mainGlobals "_law_refused" = some (some (.ref ft1)))
    (lt1 : K.lookup ft1 = some ⟨oct1, odt1, .func (PySem.W.fnOf "_law_refused" "_law_refused" (defArgs sRefused) (defBody sRefused) (defScope sRefused) .none kVt1 dct1 pmt1 ant1 (.ref ct1) ctt1), slt1⟩)
    (ck1 : PySem.W.codeIn K (.ref ct1) "_law_refused" = true)
    (kk1 : PySem.W.keepIn K (.ref ft1) = true)
    (lc1 : K.lookup ct1 = some ⟨.type "code", odc1, .fields vsC1, slc1⟩)
    (hP1 : vsC1[11]? = some (.ref Pt1))
    (hcd1 : PySem.W.codeHdIn K ct1 Pt1 = true)
    (notK1 : K.lookup Pt1 = none)
    (tab1 : h.get? Pt1 = some { cls := .none, data := .fields #[] })
    (nCn : PySem.W.nsIn K mainGlobals "NoCount" = some (some (.ref C_n)))
    (xLn : K.lookup C_n = some (excClassObj nm_n q_n C_n N_n bs_n [.ref S_n, .type "ValueError", .type "Exception", .type "BaseException", .type "object"] true sn_n sub_n ab_n col_n dd_n u0_n u1_n u2_n u3_n u5_n "ValueError.__new__"))
    (x5n : PySem.W.findIn K (.ref C_n) "__setattr__" = some (some (.builtin "object.__setattr__")))
    (x6n : PySem.W.typeIn K (.ref C_n) = some (.type "type"))
    (x7n : PySem.W.keepIn K (.ref C_n) = true)
    (iIn : PySem.W.findIn K (.ref C_n) "__init__" = some (some (.ref fI_n)))
    (tIn : PySem.W.typeIn K (.ref fI_n) = some (.type "function"))
    (nTn : PySem.W.findIn K (.ref C_n) "told" = some none)
    (lIn : K.lookup fI_n = some ⟨ocI_n, odI_n, .func (PySem.W.fnOf "__init__" "NoCount.__init__" (defArgs (inClass (top 2) 0)) (defBody (inClass (top 2) 0)) (defScope (inClass (top 2) 0)) .none kVI_n dcI_n pmI_n anI_n cdI_n ctI_n), slI_n⟩)
    (cIn : PySem.W.codeIn K cdI_n "NoCount.__init__" = true)
    (kIn : PySem.W.keepIn K (.ref fI_n) = true)
    (x1n : PySem.W.findIn K (.ref C_n) "__getattribute__" = some (some (.builtin "BaseException.__getattribute__")))
    (x2n : PySem.W.findIn K (.ref C_n) "__getattr__" = some none)
    (x3n : PySem.W.subIn K (.ref C_n) (.type "BaseException") = some true)
    (x4n : PySem.W.hasDictIn K C_n = true)
    (nCp : PySem.W.nsIn K mainGlobals "NoPage" = some (some (.ref C_p)))
    (xLp : K.lookup C_p = some (excClassObj nm_p q_p C_p N_p bs_p [.ref S_p, .type "ValueError", .type "Exception", .type "BaseException", .type "object"] true sn_p sub_p ab_p col_p dd_p u0_p u1_p u2_p u3_p u5_p "ValueError.__new__"))
    (x5p : PySem.W.findIn K (.ref C_p) "__setattr__" = some (some (.builtin "object.__setattr__")))
    (x6p : PySem.W.typeIn K (.ref C_p) = some (.type "type"))
    (x7p : PySem.W.keepIn K (.ref C_p) = true)
    (iIp : PySem.W.findIn K (.ref C_p) "__init__" = some (some (.ref fI_p)))
    (tIp : PySem.W.typeIn K (.ref fI_p) = some (.type "function"))
    (nTp : PySem.W.findIn K (.ref C_p) "told" = some none)
    (lIp : K.lookup fI_p = some ⟨ocI_p, odI_p, .func (PySem.W.fnOf "__init__" "NoPage.__init__" (defArgs (inClass (top 3) 0)) (defBody (inClass (top 3) 0)) (defScope (inClass (top 3) 0)) .none kVI_p dcI_p pmI_p anI_p cdI_p ctI_p), slI_p⟩)
    (cIp : PySem.W.codeIn K cdI_p "NoPage.__init__" = true)
    (kIp : PySem.W.keepIn K (.ref fI_p) = true)
    (x1p : PySem.W.findIn K (.ref C_p) "__getattribute__" = some (some (.builtin "BaseException.__getattribute__")))
    (x2p : PySem.W.findIn K (.ref C_p) "__getattr__" = some none)
    (x3p : PySem.W.subIn K (.ref C_p) (.type "BaseException") = some true)
    (x4p : PySem.W.hasDictIn K C_p = true)
    (snn : PySem.W.subIn K (.ref C_n) (.ref C_n) = some true)
    (spn : PySem.W.subIn K (.ref C_p) (.ref C_n) = some false)
    (spp : PySem.W.subIn K (.ref C_p) (.ref C_p) = some true) : LawM l w K mg fa h 9 (fun cs => spLaw K (tbOf cs)) := by
  obtain ⟨f0, fd0, n0_, F0⟩ := A0
  obtain ⟨f1, fd1, n1_, F1⟩ := A1
  obtain ⟨f2, fd2, n2_, F2⟩ := A2
  obtain ⟨f3, fd3, n3_, F3⟩ := A3
  obtain ⟨f4, fd4, n4_, F4⟩ := A4
  obtain ⟨f5, fd5, n5_, F5⟩ := A5
  obtain ⟨f6, fd6, n6_, F6⟩ := A6
  obtain ⟨f7, fd7, n7_, F7⟩ := A7
  obtain ⟨f8, fd8, n8_, F8⟩ := A8
  obtain ⟨f9, fd9, n9_, F9⟩ := A9
  obtain ⟨f10, fd10, n10_, F10⟩ := A10
  obtain ⟨f11, fd11, n11_, F11⟩ := A11
  obtain ⟨f12, fd12, n12_, F12⟩ := A12
  obtain ⟨f13, fd13, n13_, F13⟩ := A13
  obtain ⟨f14, fd14, n14_, F14⟩ := A14
  obtain ⟨f15, fd15, n15_, F15⟩ := A15
  have M0 := PySem.W.mg_of X G n0_
  have b0 := F0.binds (ps := ["value"]) fun _ _ _ _ _ _ us hl => match us, hl with | [_], _ => rfl
  have M1 := PySem.W.mg_of X G n1_
  have b1 := F1.binds (ps := ["value", "least", "most"]) fun _ _ _ _ _ _ us hl => match us, hl with | [_, _, _], _ => rfl
  have M2 := PySem.W.mg_of X G n2_
  have b2 := F2.binds (ps := ["pages"]) fun _ _ _ _ _ _ us hl => match us, hl with | [_], _ => rfl
  have M3 := PySem.W.mg_of X G n3_
  have b3 := F3.binds (ps := ["pages", "page"]) fun _ _ _ _ _ _ us hl => match us, hl with | [_, _], _ => rfl
  have M4 := PySem.W.mg_of X G n4_
  have b4 := F4.binds (ps := ["pages", "begins"]) fun _ _ _ _ _ _ us hl => match us, hl with | [_, _], _ => rfl
  have M5 := PySem.W.mg_of X G n5_
  have b5 := F5.binds (ps := ["pages", "listed", "least", "most"]) fun _ _ _ _ _ _ us hl => match us, hl with | [_, _, _, _], _ => rfl
  have M6 := PySem.W.mg_of X G n6_
  have b6 := F6.binds (ps := ["pages", "begins", "page"]) fun _ _ _ _ _ _ us hl => match us, hl with | [_, _, _], _ => rfl
  have M7 := PySem.W.mg_of X G n7_
  have b7 := F7.binds (ps := ["pages", "begins", "page"]) fun _ _ _ _ _ _ us hl => match us, hl with | [_, _, _], _ => rfl
  have M8 := PySem.W.mg_of X G n8_
  have b8 := F8.binds (ps := ["pages", "begins", "places", "count"]) fun _ _ _ _ _ _ us hl => match us, hl with | [_, _, _, _], _ => rfl
  have M9 := PySem.W.mg_of X G n9_
  have b9 := F9.binds (ps := ["_law_script", "_law_k"]) fun _ _ _ _ _ _ us hl => match us, hl with | [_, _], _ => rfl
  have M10 := PySem.W.mg_of X G n10_
  have b10 := F10.binds (ps := ["_law_source", "_law_top"]) fun _ _ _ _ _ _ us hl => match us, hl with | [_, _], _ => rfl
  have M11 := PySem.W.mg_of X G n11_
  have b11 := F11.binds (ps := ["_law_call"]) fun _ _ _ _ _ _ us hl => match us, hl with | [_], _ => rfl
  have M12 := PySem.W.mg_of X G n12_
  have b12 := F12.binds (ps := ["_law_costs"]) fun _ _ _ _ _ _ us hl => match us, hl with | [_], _ => rfl
  have M13 := PySem.W.mg_of X G n13_
  have b13 := F13.binds (ps := ["_law_size", "_law_begins", "_law_spot"]) fun _ _ _ _ _ _ us hl => match us, hl with | [_, _, _], _ => rfl
  have M14 := PySem.W.mg_of X G n14_
  have b14 := F14.binds (ps := ["_law_costs", "_law_count"]) fun _ _ _ _ _ _ us hl => match us, hl with | [_, _], _ => rfl
  have M15 := PySem.W.mg_of X G n15_
  have b15 := F15.binds (ps := ["_law_script"]) fun _ _ _ _ _ _ us hl => match us, hl with | [_], _ => rfl
  have e := hfa.symm.trans M15
  cases e
  have T : Cst mg := ⟨(PySem.W.mg_none_of X G z_isinstance), (PySem.W.mg_none_of X G z_len), (PySem.W.mg_none_of X G z_int), (PySem.W.mg_none_of X G z_bool), (PySem.W.mg_none_of X G z_list), (PySem.W.mg_none_of X G z_tuple), (PySem.W.mg_none_of X G z_range), (PySem.W.mg_none_of X G z_max), (PySem.W.mg_none_of X G z_min), (PySem.W.mg_none_of X G z_repr), (PySem.W.mg_none_of X G z_enumerate), ⟨_, PySem.W.mg_of X G g_pages⟩, ⟨_, PySem.W.mg_of X G g_walks⟩, ⟨_, PySem.W.mg_of X G g_places⟩, (PySem.W.mg_none_of X G z_sorted), (PySem.W.mg_none_of X G z_all)⟩
  have oxn : OexC K C_n := ⟨⟨_, _, _, _, _, _, _, _, _, _, _, _, _, _, _, xLn, by rfl⟩, x5n, x3n, x6n, x7n⟩
  have TEn : ErrT K mg "NoCount" C_n fI_n := ⟨oxn, PySem.W.mg_of X G nCn, iIn, tIn, nTn⟩
  have FIn := fun_mk (st := inClass (top 2) 0) lIn cIn kIn
  have bIn := FIn.binds (ps := ["self", "told"]) fun _ _ _ _ _ _ us hl => match us, hl with | [_, _], _ => rfl
  have ESn : ErrS K mg "NoCount" C_n := ⟨PySem.W.mg_of X G nCn, ⟨x1n, x2n, x3n, x4n⟩, nTn⟩
  have oxp : OexC K C_p := ⟨⟨_, _, _, _, _, _, _, _, _, _, _, _, _, _, _, xLp, by rfl⟩, x5p, x3p, x6p, x7p⟩
  have TEp : ErrT K mg "NoPage" C_p fI_p := ⟨oxp, PySem.W.mg_of X G nCp, iIp, tIp, nTp⟩
  have FIp := fun_mk (st := inClass (top 3) 0) lIp cIp kIp
  have bIp := FIp.binds (ps := ["self", "told"]) fun _ _ _ _ _ _ us hl => match us, hl with | [_, _], _ => rfl
  have ESp : ErrS K mg "NoPage" C_p := ⟨PySem.W.mg_of X G nCp, ⟨x1p, x2p, x3p, x4p⟩, nTp⟩
  have S : Tri K mg ⟨C_n, C_p⟩ := ⟨ESn, ESp, PySem.W.exm_ref x3n x4n x6n snn, PySem.W.exm_ref x3n x4n x6n spn, PySem.W.exm_ref x3p x4p x6p spp⟩
  obtain ⟨oc', od', kV', doc', pm', an', cdv', ct', osl', rfl, lk', hcd'⟩ := F15.ex
  have FL := fun_mk (st := sLaw) lk' hcd' F15.kp
  refine ⟨PySem.W.fnOf "law" "law" (defArgs sLaw) (defBody sLaw) (defScope sLaw) .none kV' doc' pm' an' cdv' ct', [(ct1, Pt1)], all1 tab1, all1 notK1, all1 (PySem.W.codeHd_of_K X hcd1), fun s v => .of_eq rfl, fun base _ _ TB => ?_⟩
  have Tb_ : tbOf [(ct1, Pt1)] = [(Pt1, lam1)] := tbX1
  show FnG l.prog w K mg base 9 _ _ _ (spLaw K (tbOf [(ct1, Pt1)]))
  rw [Tb_]
  have TB1 : LamX.TabB base mg ct1 Pt1 := TB (ct1, Pt1) List.mem_cons_self
  have MKn : Mak l.prog w K mg base "NoCount" C_n := ⟨fI_n, _, TEn, ok_init2 FIn, bIn⟩
  have MKp : Mak l.prog w K mg base "NoPage" C_p := ⟨fI_p, _, TEp, ok_init3 FIp, bIp⟩
  have D0 : Df l.prog w K mg base 1 "is_number" ["value"] spN := ⟨f0, fd0, ok_number F0 T, M0, F0.kp, b0⟩
  have D1 : Df l.prog w K mg base 2 "is_within" ["value", "least", "most"] spW := ⟨f1, fd1, ok_within F1 D0, M1, F1.kp, b1⟩
  have D2 : DfX l.prog w K mg base 3 "_check_pages" ["pages"] (spPages C_n) := ⟨f2, fd2, ok_ckpages F2 T MKn D1, M2, F2.kp, b2⟩
  have D3 : DfX l.prog w K mg base 3 "check_page" ["pages", "page"] (spPage C_p) := ⟨f3, fd3, ok_ckpage F3 T MKp D1, M3, F3.kp, b3⟩
  have D5 : DfX l.prog w K mg base 3 "_check_listed" ["pages", "listed", "least", "most"] (spListed K C_p) := ⟨f5, fd5, ok_listed F5 T MKp D1, M5, F5.kp, b5⟩
  have D4 : DfX l.prog w K mg base 4 "_check_begins" ["pages", "begins"] (spBegins K C_n C_p) := ⟨f4, fd4, ok_begins F4 T D2 D5, M4, F4.kp, b4⟩
  have D6 : Df l.prog w K mg base 1 "_least_moves" ["pages", "begins", "page"] (spLM K) := ⟨f6, fd6, ok_lm F6 T, M6, F6.kp, b6⟩
  have D7 : DfX l.prog w K mg base 5 "least_moves" ["pages", "begins", "page"] (spLeast K C_n C_p) := ⟨f7, fd7, ok_least F7 D4 D3 D6, M7, F7.kp, b7⟩
  have D8 : DfX l.prog w K mg base 5 "most_missed" ["pages", "begins", "places", "count"] (spMost K C_n C_p) := ⟨f8, fd8, ok_most F8 T MKn D0 D4 D5 D6, M8, F8.kp, b8⟩
  have D9 : Df l.prog w K mg base 1 "_law_pool" ["_law_script", "_law_k"] (spPool K) := ⟨f9, fd9, ok_pool F9 T, M9, F9.kp, b9⟩
  have D10 : Df l.prog w K mg base 1 "_law_take" ["_law_source", "_law_top"] spTake := ⟨f10, fd10, ok_take F10 T, M10, F10.kp, b10⟩
  have D12 : Df l.prog w K mg base 1 "_law_spread" ["_law_costs"] spSpread := ⟨f12, fd12, ok_spread F12 T, M12, F12.kp, b12⟩
  have D13 : Df l.prog w K mg base 2 "_law_least" ["_law_size", "_law_begins", "_law_spot"] spLLeast := ⟨f13, fd13, ok_lleast F13 T D12, M13, F13.kp, b13⟩
  have D14 : Df l.prog w K mg base 1 "_law_most" ["_law_costs", "_law_count"] spLMost := ⟨f14, fd14, ok_lmost F14 T, M14, F14.kp, b14⟩
  have DR : DfG l.prog w K mg base 8 "_law_refused" ["_law_size", "_law_begins"] (spRefused [(Pt1, lam1)]) := ⟨ft1, _, ok_refused (c := ⟨C_n, C_p⟩) ⟨oct1, odt1, kVt1, dct1, pmt1, ant1, ctt1, slt1, rfl, lt1, ck1⟩ T S TB1 List.mem_cons_self only1 F11 M11 b11 D7 D8, PySem.W.mg_of X G nt1, kk1, .all fun us hl => match us, hl with | [_, _], _ => rfl⟩
  exact ok_law FL T D9 D10 D13 D7 D8 D14 DR
end Pl

open PyProof.Rows PySem PySem.W in
set_option maxRecDepth 100001 in
set_option maxHeartbeats 0 in
theorem PySem.Challenge.cw_plainstore_k24_whole_least_moves_of_many_holds : PySem.Challenge.rw_plainstore_k24_whole_least_moves_of_many.Holds := by
  (w_on; o_law; k_head); (case hw => w_witness2)
  k_fill
  refine Pl.walkP (l := PySem.Challenge.rw_plainstore_k24_whole_least_moves_of_many) rfl (by decide) rfl (fun w h Y => km_in_of Y) ?F
  case F =>
    intro w mg fa h Y KX G hmg
    refine' Pl.all_mk KX G hmg ?A0 ?A1 ?A2 ?A3 ?A4 ?A5 ?A6 ?A7 ?A8 ?A9 ?A10 ?A11 ?A12 ?A13 ?A14 ?A15 ?z_isinstance ?z_len ?z_int ?z_bool ?z_list ?z_tuple ?z_range ?z_max ?z_min ?z_repr ?z_enumerate ?z_sorted ?z_all ?g_pages ?g_walks ?g_places ?nt1 ?lt1 ?ck1 ?kk1 ?lc1 ?hP1 ?hcd1 ?notK1 ?tab1 ?nCn ?xLn ?x5n ?x6n ?x7n ?iIn ?tIn ?nTn ?lIn ?cIn ?kIn ?x1n ?x2n ?x3n ?x4n ?nCp ?xLp ?x5p ?x6p ?x7p ?iIp ?tIp ?nTp ?lIp ?cIp ?kIp ?x1p ?x2p ?x3p ?x4p ?snn ?spn ?spp
    (case A0 => (refine' ⟨_, _, ?a, L2.fun_mk ?l ?c ?k⟩; (case a => k_is); (case l => k_is); (case c => k_is); (case k => k_is)))
    (case A1 => (refine' ⟨_, _, ?a, L2.fun_mk ?l ?c ?k⟩; (case a => k_is); (case l => k_is); (case c => k_is); (case k => k_is)))
    (case A2 => (refine' ⟨_, _, ?a, L2.fun_mk ?l ?c ?k⟩; (case a => k_is); (case l => k_is); (case c => k_is); (case k => k_is)))
    (case A3 => (refine' ⟨_, _, ?a, L2.fun_mk ?l ?c ?k⟩; (case a => k_is); (case l => k_is); (case c => k_is); (case k => k_is)))
    (case A4 => (refine' ⟨_, _, ?a, L2.fun_mk ?l ?c ?k⟩; (case a => k_is); (case l => k_is); (case c => k_is); (case k => k_is)))
    (case A5 => (refine' ⟨_, _, ?a, L2.fun_mk ?l ?c ?k⟩; (case a => k_is); (case l => k_is); (case c => k_is); (case k => k_is)))
    (case A6 => (refine' ⟨_, _, ?a, L2.fun_mk ?l ?c ?k⟩; (case a => k_is); (case l => k_is); (case c => k_is); (case k => k_is)))
    (case A7 => (refine' ⟨_, _, ?a, L2.fun_mk ?l ?c ?k⟩; (case a => k_is); (case l => k_is); (case c => k_is); (case k => k_is)))
    (case A8 => (refine' ⟨_, _, ?a, L2.fun_mk ?l ?c ?k⟩; (case a => k_is); (case l => k_is); (case c => k_is); (case k => k_is)))
    (case A9 => (refine' ⟨_, _, ?a, L2.fun_mk ?l ?c ?k⟩; (case a => k_is); (case l => k_is); (case c => k_is); (case k => k_is)))
    (case A10 => (refine' ⟨_, _, ?a, L2.fun_mk ?l ?c ?k⟩; (case a => k_is); (case l => k_is); (case c => k_is); (case k => k_is)))
    (case A11 => (refine' ⟨_, _, ?a, L2.fun_mk ?l ?c ?k⟩; (case a => k_is); (case l => k_is); (case c => k_is); (case k => k_is)))
    (case A12 => (refine' ⟨_, _, ?a, L2.fun_mk ?l ?c ?k⟩; (case a => k_is); (case l => k_is); (case c => k_is); (case k => k_is)))
    (case A13 => (refine' ⟨_, _, ?a, L2.fun_mk ?l ?c ?k⟩; (case a => k_is); (case l => k_is); (case c => k_is); (case k => k_is)))
    (case A14 => (refine' ⟨_, _, ?a, L2.fun_mk ?l ?c ?k⟩; (case a => k_is); (case l => k_is); (case c => k_is); (case k => k_is)))
    (case A15 => (refine' ⟨_, _, ?a, L2.fun_mk ?l ?c ?k⟩; (case a => k_is); (case l => k_is); (case c => k_is); (case k => k_is)))
    (case z_isinstance => k_is)
    (case z_len => k_is)
    (case z_int => k_is)
    (case z_bool => k_is)
    (case z_list => k_is)
    (case z_tuple => k_is)
    (case z_range => k_is)
    (case z_max => k_is)
    (case z_min => k_is)
    (case z_repr => k_is)
    (case z_enumerate => k_is)
    (case z_sorted => k_is)
    (case z_all => k_is)
    (case g_pages => k_is)
    (case g_walks => k_is)
    (case g_places => k_is)
    (case nt1 => k_is)
    (case lt1 => k_is)
    (case ck1 => k_is)
    (case kk1 => k_is)
    (case lc1 => k_is)
    (case hP1 => rfl)
    (case hcd1 => kernel_rfl)
    (case notK1 => kernel_rfl)
    (case tab1 => exact PySem.W.km_tabs_of Y _ (by simp))
    (case nCn => k_is)
    (case xLn => k_is)
    (case x5n => k_is)
    (case x6n => k_is)
    (case x7n => k_is)
    (case iIn => k_is)
    (case tIn => k_is)
    (case nTn => k_is)
    (case lIn => k_is)
    (case cIn => k_is)
    (case kIn => k_is)
    (case x1n => k_is)
    (case x2n => k_is)
    (case x3n => k_is)
    (case x4n => k_is)
    (case nCp => k_is)
    (case xLp => k_is)
    (case x5p => k_is)
    (case x6p => k_is)
    (case x7p => k_is)
    (case iIp => k_is)
    (case tIp => k_is)
    (case nTp => k_is)
    (case lIp => k_is)
    (case cIp => k_is)
    (case kIp => k_is)
    (case x1p => k_is)
    (case x2p => k_is)
    (case x3p => k_is)
    (case x4p => k_is)
    (case snn => k_is)
    (case spn => k_is)
    (case spp => k_is)

