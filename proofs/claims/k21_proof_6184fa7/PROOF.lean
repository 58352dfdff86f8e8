import PyProof.Rows.All
import Wide.All
import OpenK.AllK
import Wide.FinOn
import HandS.ForMost
import PyProof.ReprLen
import PyProof.ReprRoads
import HandS.IsInst
import HandS.TupAny
import HandS.TupMul
import HandS.TupSets
import HandS.Conv
import HandS.Style
import HandS.ExcInit
import HandS.ExcIs
import HandS.ExcField
import HandS.CallLocal
import HandS.CallSlots
import HandS.TryOnly
import HandS.ExcOwn
import HandS.WordsExc
import HandS.More
import HandS.NoneIn
import HandS.Defaults
import HandS.Lambda
import HandS.TryMany
import HandS.EndTab
import KE.KNestM
import HandS.Walk
import KE.GoesEnum
import PySem.Challenge.RW_plainstore_k21_moves_and_sights
set_option Elab.async false
set_option linter.all false
set_option maxRecDepth 100000
set_option maxHeartbeats 8000000
namespace Pl
open L2 PySem PySem.Spec PyProof.Rows
/-- what a tracked tuple's items read as: known to its object (which has no dict), or longer than four, or (k = false) any -/
inductive TupAt (H : Hp) : Bool → Addr → List V → Prop
  | frz {k : Bool} {a : Addr} {o : Obj} {xs : List V} (h : H a = some (.frz o (.tup xs))) (d : o.dict = none) : TupAt H k a xs
  | big {k : Bool} {a : Addr} {xs : List V} (h : H a = some (.tup xs)) (l : 4 < xs.length) : TupAt H k a xs
  | any {a : Addr} {xs : List V} (h : H a = some (.tup xs)) : TupAt H false a xs
mutual
/-- m: dicts (true) or lists (false) stand in it; z: an address that it keeps away from; k: its own tuple is known -/
inductive Dv (m : Bool) (z : Addr) (H : Hp) : Bool → V → PyData → Prop
  | non {k : Bool} : Dv m z H k .non .none
  | bl {k : Bool} (b : Bool) : Dv m z H k (.bl b) (.bool b)
  | int {k : Bool} (i : Int) : Dv m z H k (.int i) (.int i)
  | str {k : Bool} (x : Str) : Dv m z H k (.str x) (.str x)
  | lst {k : Bool} {a : Addr} {xs : List V} {ds : List PyData} (hm : m = false) (ne : a ≠ z) (h : H a = some (.lst xs)) (t : DvL m z H false xs ds) : Dv m z H k (.ref a) (.list ds)
  | tup {k : Bool} {a : Addr} {xs : List V} {ds : List PyData} (ne : a ≠ z) (h : TupAt H k a xs) (t : DvL m z H true xs ds) : Dv m z H k (.ref a) (.tuple ds)
  | dct {k : Bool} {a : Addr} (hm : m = true) (ne : a ≠ z) (h : H a = some (.dK [])) : Dv m z H k (.ref a) (.dict [])
inductive DvL (m : Bool) (z : Addr) (H : Hp) : Bool → List V → List PyData → Prop
  | nil {k : Bool} : DvL m z H k [] []
  | cons {k : Bool} {v : V} {vs : List V} {d : PyData} {ds : List PyData} (a : Dv m z H k v d) (t : DvL m z H k vs ds) : DvL m z H k (v :: vs) (d :: ds)
end
theorem TupAt.weak {H : Hp} {k : Bool} {a : Addr} {xs : List V} (h : TupAt H k a xs) : TupAt H false a xs := by
  cases h with
  | frz h d => exact .frz h d
  | big h l => exact .any h
  | any h => exact .any h
theorem TupAt.sq {K : PySem.W.Frag} {H : Hp} {k : Bool} {a : Addr} {xs : List V} (h : TupAt H k a xs) : SqT K H a xs := by
  cases h with
  | frz h d => exact .inl (.inr ⟨_, h⟩)
  | big h l => exact .inl (.inl h)
  | any h => exact .inl (.inl h)
/-- (any object) -/
def NoT (_ : HO) : Prop := True
theorem NoT.lst {xs : List V} : NoT (.lst xs) := trivial
theorem NoT.tup {xs : List V} : NoT (.tup xs) := trivial
theorem NoT.dK {kvs : List (Key × V)} : NoT (.dK kvs) := trivial
theorem NoT.frz {o : Obj} {u : HO} : NoT (.frz o u) := trivial
/-- all but z stands -/
def But (z : Addr) (H G : Hp) : Prop := ∀ b o, b ≠ z → NoT o → H b = some o → G b = some o
/-- all stands -/
def Sam (H G : Hp) : Prop := ∀ b o, NoT o → H b = some o → G b = some o
theorem Sam.refl (H : Hp) : Sam H H := fun _ _ _ e => e
theorem Sam.of {H G : Hp} (s : Same H G) : Sam H G := fun b o _ e => s b o e
theorem Sam.trans {H G F : Hp} (a : Sam H G) (b : Sam G F) : Sam H F := fun c o n e => b c o n (a c o n e)
theorem Sam.but {H G : Hp} {z : Addr} (s : Sam H G) : But z H G := fun b o _ n e => s b o n e
theorem But.of {H G : Hp} {z : Addr} (s : Same H G) : But z H G := fun b o _ _ e => s b o e
theorem But.refl (z : Addr) (H : Hp) : But z H H := fun _ _ _ _ e => e
theorem But.trans {z : Addr} {H G F : Hp} (a : But z H G) (b : But z G F) : But z H F := fun c o n t e => b c o n t (a c o n t e)
theorem But.upd {z : Addr} {H : Hp} {o : HO} : But z H (L2.upd H z o) := fun b u n _ e => (upd_ne n).trans e
theorem But.new {z p : Addr} {H : Hp} {o : HO} (f : H p = none) : But z H (L2.upd H p o) := fun b u _ _ e => (upd_ne (ne_of_none e f)).trans e
theorem same_new {p : Addr} {H : Hp} {o : HO} (f : H p = none) : Same H (L2.upd H p o) := fun b u e => (upd_ne (ne_of_none e f)).trans e
theorem TupAt.to {H G : Hp} {z : Addr} {k : Bool} {a : Addr} {xs : List V} (e : But z H G) (ne : a ≠ z) (h : TupAt H k a xs) : TupAt G k a xs := by
  cases h with
  | frz h d => exact .frz (e _ _ ne NoT.frz h) d
  | big h l => exact .big (e _ _ ne NoT.tup h) l
  | any h => exact .any (e _ _ ne NoT.tup h)
section
variable {m : Bool} {z : Addr} {H G : Hp}
mutual
theorem Dv.to (e : But z H G) : ∀ (k : Bool) (d : PyData) (v : V), Dv m z H k v d → Dv m z G k v d
  | _, .none, _, h => by cases h; exact .non
  | _, .bool _, _, h => by cases h; exact .bl _
  | _, .int _, _, h => by cases h; exact .int _
  | _, .str _, _, h => by cases h; exact .str _
  | _, .list ds, _, h => by
    cases h with
    | lst hm ne h t => exact .lst hm ne (e _ _ ne NoT.lst h) (DvL.to e _ ds _ t)
  | _, .tuple ds, _, h => by
    cases h with
    | tup ne h t => exact .tup ne (h.to e ne) (DvL.to e _ ds _ t)
  | _, .dict _, _, h => by
    cases h with
    | dct hm ne h => exact .dct hm ne (e _ _ ne NoT.dK h)
theorem DvL.to (e : But z H G) : ∀ (k : Bool) (ds : List PyData) (vs : List V), DvL m z H k vs ds → DvL m z G k vs ds
  | _, [], _, h => by cases h; exact .nil
  | _, d :: ds, _, h => by
    cases h with
    | cons a t => exact .cons (Dv.to e _ d _ a) (DvL.to e _ ds _ t)
end
theorem Dv.weak {k : Bool} {v : V} {d : PyData} (h : Dv m z H k v d) : Dv m z H false v d := by
  cases h with
  | non => exact .non
  | bl b => exact .bl b
  | int i => exact .int i
  | str x => exact .str x
  | lst hm ne h t => exact .lst hm ne h t
  | tup ne h t => exact .tup ne h.weak t
  | dct hm ne h => exact .dct hm ne h
theorem DvL.weak {k : Bool} : ∀ {vs : List V} {ds : List PyData}, DvL m z H k vs ds → DvL m z H false vs ds
  | _, _, .nil => .nil
  | _, _, .cons a t => .cons a.weak t.weak
theorem DvL.len {k : Bool} : ∀ {vs : List V} {ds : List PyData}, DvL m z H k vs ds → vs.length = ds.length
  | _, _, .nil => rfl
  | _, _, .cons _ t => congrArg Nat.succ t.len
theorem DvL.at {k : Bool} : ∀ {vs : List V} {ds : List PyData} {i : Nat} {d : PyData}, DvL m z H k vs ds → ds[i]? = some d → ∃ v, vs[i]? = some v ∧ Dv m z H k v d
  | _, _, _, _, .nil, e => absurd e (by simp)
  | _, _, 0, _, .cons a _, e => by simp at e; subst e; exact ⟨_, rfl, a⟩
  | _, _, i + 1, _, .cons _ t, e => by
    obtain ⟨v, h1, h2⟩ := DvL.at (i := i) t (by simpa using e)
    exact ⟨v, by simpa using h1, h2⟩
theorem DvL.at' {k : Bool} : ∀ {vs : List V} {ds : List PyData} {i : Nat} {v : V}, DvL m z H k vs ds → vs[i]? = some v → ∃ d, ds[i]? = some d ∧ Dv m z H k v d
  | _, _, _, _, .nil, e => absurd e (by simp)
  | _, _, 0, _, .cons a _, e => by simp at e; subst e; exact ⟨_, rfl, a⟩
  | _, _, i + 1, _, .cons _ t, e => by
    obtain ⟨v, h1, h2⟩ := DvL.at' (i := i) t (by simpa using e)
    exact ⟨v, by simpa using h1, h2⟩
theorem DvL.app {k : Bool} : ∀ {vs ws : List V} {ds es : List PyData}, DvL m z H k vs ds → DvL m z H k ws es → DvL m z H k (vs ++ ws) (ds ++ es)
  | _, _, _, _, .nil, h => h
  | _, _, _, _, .cons a t, h => .cons a (t.app h)
theorem DvL.take {k : Bool} : ∀ {vs : List V} {ds : List PyData} (n : Nat), DvL m z H k vs ds → DvL m z H k (vs.take n) (ds.take n)
  | _, _, 0, _ => by rw [List.take_zero, List.take_zero]; exact .nil
  | _, _, _ + 1, .nil => .nil
  | _, _, n + 1, .cons a t => .cons a (t.take n)
theorem DvL.drop {k : Bool} : ∀ {vs : List V} {ds : List PyData} (n : Nat), DvL m z H k vs ds → DvL m z H k (vs.drop n) (ds.drop n)
  | _, _, 0, h => h
  | _, _, _ + 1, .nil => .nil
  | _, _, n + 1, .cons _ t => t.drop n
end
section
variable {X : Cx} {pins : List (Addr × Obj)} {σ : L2.St} {H : Hp} {s : Shared} {m : Bool} {z : Addr}
theorem vals_list {a : Addr} {xs : List V} (I : Inv X pins σ H s) (h : H a = some (.lst xs)) : ∃ o vs n, s.heap.get? a = some o ∧ o.cls = .type "list" ∧ o.data = .seq vs n ∧ Vals xs vs.toList := by
  obtain ⟨_, its, n, r, e⟩ := I.hok a _ h
  exact ⟨_, its.toArray, n, e, rfl, rfl, by simpa using r⟩
theorem TupAt.obj {k : Bool} {a : Addr} {xs : List V} (I : Inv X pins σ H s) (h : TupAt H k a xs) : xs.length ≤ sizeLine ∧ ∃ its : List Value, Vals xs its ∧ IsTup s.heap a its.toArray := by
  cases h with
  | frz h d => exact (I.hok _ _ h).2
  | big h l => exact I.hok _ _ h
  | any h => exact I.hok _ _ h
mutual
theorem Dv.rd (I : Inv X pins σ H s) : ∀ (k : Bool) (d : PyData) (v : V) (u : Value), Dv m z H k v d → RelV v u → ∃ as, Reads s.heap u d as ∧ (m = true → sysModules ∉ as)
  | _, .none, _, _, h, r => by cases h; cases r; exact ⟨_, .none, fun _ => List.not_mem_nil⟩
  | _, .bool b, _, _, h, r => by cases h; cases r; exact ⟨_, .bool b, fun _ => List.not_mem_nil⟩
  | _, .int i, _, _, h, r => by
    cases h
    obtain ⟨t, rfl⟩ := r
    exact ⟨_, .int i t, fun _ => List.not_mem_nil⟩
  | _, .str x, _, _, h, r => by
    cases h
    obtain ⟨t, rfl⟩ := r
    exact ⟨_, .str x t, fun _ => List.not_mem_nil⟩
  | _, .list ds, _, _, h, r => by
    cases h with
    | lst hm ne h t =>
      cases r
      obtain ⟨o, vs, n, e1, e2, e3, rv⟩ := vals_list I h
      obtain ⟨as, q, _⟩ := DvL.rd I _ ds _ _ t rv
      exact ⟨_, .list e1 e2 e3 q, fun e => absurd (hm.symm.trans e) (by decide)⟩
  | _, .tuple ds, _, _, h, r => by
    cases h with
    | tup ne h t =>
      cases r
      obtain ⟨_, its, rv, o, e1, e2, n, e3⟩ := h.obj I
      obtain ⟨as, q, kk⟩ := DvL.rd I _ ds _ its t rv
      exact ⟨_, .tuple e1 e2 e3 (by simpa using q), kk⟩
  | _, .dict kvs, _, _, h, r => by
    cases h with
    | @dct _ a hm ne h =>
      cases r
      obtain ⟨_, lo, vs, rel, o, es, n, e1, e2, e3, _, e4, _⟩ := I.hok _ _ h
      cases rel
      obtain ⟨l⟩ := es
      have e5 : l = [] := by
        cases l with
        | nil => rfl
        | cons x l => cases e4
      subst e5
      refine ⟨[a] ++ [], .dict (as := []) (bs := []) e1 e2.1 e3 .nil .nil, fun _ hm => ?_⟩
      rw [List.append_nil, List.mem_singleton] at hm
      subst hm
      simp at lo
theorem DvL.rd (I : Inv X pins σ H s) : ∀ (k : Bool) (ds : List PyData) (vs : List V) (us : List Value), DvL m z H k vs ds → Vals vs us → ∃ as, ReadsAll s.heap us ds as ∧ (m = true → sysModules ∉ as)
  | _, [], _, _, h, r => by cases h; cases r; exact ⟨_, .nil, fun _ => List.not_mem_nil⟩
  | _, d :: ds, _, _, h, r => by
    cases h with
    | cons a t =>
      cases r with
      | cons r1 r2 =>
        obtain ⟨as, q1, k1⟩ := Dv.rd I _ d _ _ a r1
        obtain ⟨bs, q2, k2⟩ := DvL.rd I _ ds _ _ t r2
        exact ⟨_, .cons q1 q2, fun e hm => (List.mem_append.mp hm).elim (k1 e) (k2 e)⟩
end
mutual
theorem Dv.nod (e : m = false) : ∀ (k : Bool) (d : PyData) (v : V), Dv m z H k v d → d.hasDict = false
  | _, .none, _, _ => by simp only [PyData.hasDict]
  | _, .bool _, _, _ => by simp only [PyData.hasDict]
  | _, .int _, _, _ => by simp only [PyData.hasDict]
  | _, .str _, _, _ => by simp only [PyData.hasDict]
  | _, .list ds, _, h => by
    cases h with
    | lst hm ne h t => simp only [PyData.hasDict]; exact DvL.nod e _ ds _ t
  | _, .tuple ds, _, h => by
    cases h with
    | tup ne h t => simp only [PyData.hasDict]; exact DvL.nod e _ ds _ t
  | _, .dict _, _, h => by
    cases h with
    | dct hm ne h => exact absurd (hm.symm.trans e) (by decide)
theorem DvL.nod (e : m = false) : ∀ (k : Bool) (ds : List PyData) (vs : List V), DvL m z H k vs ds → PyData.hasDictAll ds = false
  | _, [], _, _ => by simp only [PyData.hasDictAll]
  | _, d :: ds, _, h => by
    cases h with
    | cons a t => simp only [PyData.hasDictAll, Dv.nod e _ d _ a, DvL.nod e _ ds _ t, Bool.or_self]
end
/-- what can be written out -/
structure Shw (d : PyData) : Prop where
  sh : d.showable = true
  dp : d.depth ≤ 10
  sz : d.shown.length ≤ sizeLine
def rRepr : List V → Hp → VK → Prop := fun xs H Q => ∃ (m : Bool) (z : Addr) (v : V) (d : PyData), xs = [v] ∧ Dv m z H false v d ∧ Shw d ∧ Q (.str d.shown) H
theorem call_repr (hg : X.A.guards = some []) (hu : X.A.units + 64 < cLine) : CallR X (.builtin "repr") rRepr := by
  intro pins s σ H xs us Q I r h; skip
  obtain ⟨m, z, v, d, rfl, hd, S, q⟩ := h
  obtain ⟨u, rfl, ru⟩ := vals1 r; skip
  obtain ⟨as, rd, lo⟩ := Dv.rd I _ d v u hd ru
  have fin : ∀ (a : Addr), u = .ref a → wpAny (model X.prog X.w) X.A (call (.builtin "repr") [u]) (EP X pins σ Q) X.xe s := fun a e => by
    subst e
    refine repr_of_reads' rd S.sh (fun hd2 => ?_) hg (by have := S.dp; omega) (fun _ _ e => e) (fun h' w tk k => ?_) S.sz
    · cases m with
      | true => exact lo rfl
      | false => exact absurd (hd2.symm.trans (Dv.nod rfl _ d v hd)) (by decide)
    · exact ⟨.str d.shown, H, I.kept k, ⟨w, rfl⟩, q⟩
  cases rd with
  | none => exact P.repr_of_none ⟨.str _, H, I.tok _, ⟨_, rfl⟩, by simpa only [PyData.shown] using q⟩
  | bool b => exact P.repr_of_bool ⟨.str _, H, I.tok _, ⟨_, rfl⟩, by cases b <;> simpa only [PyData.shown] using q⟩
  | int i t =>
    have e : decide (i.natAbs.log2 < 1920) = true := by simpa only [PyData.showable] using S.sh
    exact P.repr_of_int (of_decide_eq_true e) ⟨.str _, H, I.tok _, ⟨_, rfl⟩, by simpa only [PyData.shown] using q⟩
  | str x t => exact P.repr_of_str ⟨.str _, H, I.tok _, ⟨_, rfl⟩, by simpa only [PyData.shown] using q⟩ (by simpa only [PyData.shown] using S.sz)
  | list => exact fin _ rfl
  | tuple => exact fin _ rfl
  | dict => exact fin _ rfl
end
end Pl

namespace Pl
open L2 PySem PySem.Spec PyProof.Rows
/-- as FnOk, at places where nothing is being written out -/
structure FnG (P : Program) (w : World) (K : PySem.W.Frag) (mg : Str → Option Value) (base : Heap) (k : Nat) (f : Addr) (fd : FuncData) (ps : List Str) (sp : Sp) : Prop where
  len : ∀ us H Q E, sp us H Q E → us.length = ps.length
  run : ∀ (A : Around) (outer : List Env) (s : Shared) (H : Hp) (args : Args) (us : List Value) (vs : List V) (Q : VK) (E : XK), A.guards = some [] → Room k A → Env0 P w K mg base A outer s H → BindsTo s fd args (ps.zip us) → Vals vs us → sp vs H Q E →
    codeAny (model P w) A (.call (.ref f) args) (CR CX0 outer P w H s Q E) s
section
variable {P : Program} {K : PySem.W.Frag} {w : World} {base : Heap} {mg : Str → Option Value}
theorem okG0 {x qual : Str} {st : Stmt} {f : Addr} {N ps : List Str} {k : Nat} {sp : Sp} {oc kV doc pm cdv ct : Value} {od an : Option Addr} {osl : Array (Option Value)} (lk : K.lookup f = some ⟨oc, od, .func (PySem.W.fnOf x qual (defArgs st) (defBody st) (defScope st) .none kV doc pm an cdv ct), osl⟩) (hcd : PySem.W.codeIn K cdv qual = true)
    (S : FnScope N ps (defScope st)) (len : ∀ vs H Q E, sp vs H Q E → vs.length = ps.length)
    (walk : ∀ (A : Around) (outer : List Env) (s : Shared) (H : Hp) (vs : List V) (Q : VK) (E : XK), A.guards = some [] → Room k (A.deeper (envOfC qual (defScope st) s.heap.objs.size f cdv)) → sp vs H Q E →
      ∃ t, PSs (cxOf CX0 P w K mg base N qual (defScope st) f cdv A outer s H E).nox (defBody st) t ∧ t { nx := fun _ H' => Q .non H', rt := Q } (start N vs) H) : FnG P w K mg base (k + 1) f (PySem.W.fnOf x qual (defArgs st) (defBody st) (defScope st) .none kV doc pm an cdv ct) ps sp := by
  refine ⟨len, ?_⟩
  intro A outer s H args us vs Q E hg room env bind rel want
  have kin : K.In s.heap := env.mod.kin.keeps fun b o e => (env.bs b o e).1
  have nol : s.heap.NoLimit := env.mod.nolimit.keeps fun b o e => (env.bs b o e).1
  obtain ⟨t, ht, goal⟩ := walk A outer s H vs Q E hg (room.deeper _) want
  refine codeAny_call_function room.depth (kin _ _ lk) rfl S.co S.gen rfl (PySem.W.codeRec_of kin hcd) (bind _ _ _ _ (wpAny_newFunctionEnv_cells S.kind (fun y hy => ?_) fun env' ee s1 made => ?_))
  · rcases S.par y.1 (List.of_mem_zip (a := y.1) (b := y.2) hy).1 with h | h
    · exact .inl h
    · exact .inr ⟨h, PySem.W.cellsFrom_some _ _ _ (.inl h)⟩
  · subst ee
    refine ⟨nol.keeps made.toInCall.keep, codeAny_func (wpAny_mono (ht.nox.run [] s1 (start N vs) H _ (inv_start S room.hd env (len _ _ _ _ want) rel made) goal) ?_ fun _ _ h => h)⟩
    intro fl s2 h
    match fl, h with
    | .ret u, ⟨v, σ2, H2, J, rv, q⟩ => exact ⟨v, H2, J.os, J.bare, J.base, J.hok, rv, q⟩
    | .next, ⟨σ2, H2, J, q⟩ => exact ⟨V.non, H2, J.os, J.bare, J.base, J.hok, rfl, q⟩
    | .brk, ⟨_, _, _, q⟩ => exact q.elim
    | .cont, ⟨_, _, _, q⟩ => exact q.elim
theorem okG {x qual : Str} {st : Stmt} {f : Addr} {fd : FuncData} {N ps : List Str} {k : Nat} {sp : Sp} (F : Fun K x qual st f fd) (S : FnScope N ps (defScope st)) (len : ∀ vs H Q E, sp vs H Q E → vs.length = ps.length)
    (walk : ∀ (cdv : Value) (A : Around) (outer : List Env) (s : Shared) (H : Hp) (vs : List V) (Q : VK) (E : XK), A.guards = some [] → Room k (A.deeper (envOfC qual (defScope st) s.heap.objs.size f cdv)) → sp vs H Q E →
      ∃ t, PSs (cxOf CX0 P w K mg base N qual (defScope st) f cdv A outer s H E).nox (defBody st) t ∧ t { nx := fun _ H' => Q .non H', rt := Q } (start N vs) H) : FnG P w K mg base (k + 1) f fd ps sp := by
  obtain ⟨oc, od, kV, doc, pm, an, cdv, ct, osl, rfl, lk, hcd⟩ := F.ex; skip
  exact okG0 lk hcd S len fun A outer s H vs Q E => walk cdv A outer s H vs Q E
/-- a def whose code object is known -/
structure FunC (K : PySem.W.Frag) (x qual : Str) (st : Stmt) (f c : Addr) (fd : FuncData) : Prop where
  ex : ∃ (oc : Value) (od : Option Addr) (kV doc pm : Value) (an : Option Addr) (ct : Value) (osl : Array (Option Value)),
    fd = PySem.W.fnOf x qual (defArgs st) (defBody st) (defScope st) .none kV doc pm an (.ref c) ct ∧ K.lookup f = some ⟨oc, od, .func fd, osl⟩ ∧ PySem.W.codeIn K (.ref c) qual = true
theorem okC {x qual : Str} {st : Stmt} {f c : Addr} {fd : FuncData} {N ps : List Str} {k : Nat} {sp : Sp} (F : FunC K x qual st f c fd) (S : FnScope N ps (defScope st)) (len : ∀ vs H Q E, sp vs H Q E → vs.length = ps.length)
    (walk : ∀ (A : Around) (outer : List Env) (s : Shared) (H : Hp) (vs : List V) (Q : VK) (E : XK), A.guards = some [] → Room k (A.deeper (envOfC qual (defScope st) s.heap.objs.size f (.ref c))) → sp vs H Q E →
      ∃ t, PSs (cxOf CX0 P w K mg base N qual (defScope st) f (.ref c) A outer s H E).nox (defBody st) t ∧ t { nx := fun _ H' => Q .non H', rt := Q } (start N vs) H) : FnG P w K mg base (k + 1) f fd ps sp := by
  obtain ⟨oc, od, kV, doc, pm, an, ct, osl, rfl, lk, hcd⟩ := F.ex
  exact okG0 lk hcd S len walk
end
section
variable {X : Cx} {k i : Nat} {f : Addr} {fd : FuncData} {ps : List Str} {sp : Sp} {x : Str} {p pos : Pos} {e : Expr} {es : List Expr} {t : TA}
def tCallG (sp : Sp) (t : TA) : TE := fun σ H Q => t σ H fun vs H1 => sp vs H1 Q (fun _ _ _ => True)
theorem pe_callG (F : FnG X.prog X.w X.K X.mg X.base k f fd ps sp) (hgd : X.A.guards = some []) (hr : Room k X.A) (hg : Gl X x) (hm : X.mg x = some (.ref f)) (hk : PySem.W.keepIn X.K (.ref f) = true) (hb : Binds X.K fd ps []) (ha : PA X (e :: es) t)
    (hdb : ((x == ("__debug__" : Str)) = false) := by decide) (he : starEach (e :: es) X.env = (false, eval e X.env) :: starEach es X.env := by rfl) (hpl : (backTo pos (starEach es X.env)).any (·.1) = false := by rfl) :
    PE X (.Call (.Name x p) (e :: es) [] pos) (tCallG sp t) := by
  constructor
  intro pins s σ H Q I h
  refine wpAny_Call_Name_kw (ld_glob I hg hm (PySem.W.callWith_K (h₀ := X.base) I.ok.mod.kin hk (thn (ha.run pos pins s σ H _ I h) ?_) he hpl) hdb)
  rintro us s1 ⟨vs, H1, I1, r, q⟩
  refine ⟨I1.kIn, ?_⟩
  have hl : us.length = ps.length := r.length.symm.trans (F.len _ _ _ _ q)
  have b := hb s1 us I1.kIn (by rw [List.append_nil]; exact hl)
  rw [List.append_nil] at b
  refine wpAny_call (codeAny_mono (F.run X.A X.stack s1 H1 ⟨us, []⟩ us vs Q _ hgd hr I1.env0 b r q) ?_)
  intro r s2 hq
  match r, hq with
  | .error _, hq => exact False.elim hq
  | .ok (.ret u), hq => exact I1.after hq
  | .ok .next, hq => exact False.elim hq
  | .ok .brk, hq => exact False.elim hq
  | .ok .cont, hq => exact False.elim hq
/-- a def that may raise, held by a local name -/
structure HeldX (P : Program) (w : World) (K : PySem.W.Frag) (mg : Str → Option Value) (base : Heap) (k : Nat) (f : Addr) (sp : Sp) : Prop where
  ex : ∃ (fd : FuncData) (ps : List Str), FnOk P w K mg base (L2.CX P w) k f fd ps sp ∧ PySem.W.keepIn K (.ref f) = true ∧ Binds K fd ps []
def tCallHX (Hd : Addr → Sp → Prop) (i : Nat) (E : L2.St → XK) (t : TA) : TE := fun σ H Q => ∃ f sp, σ[i]? = some (some (.ref f)) ∧ Hd f sp ∧ t σ H fun vs H1 => sp vs H1 Q (E σ)
theorem pe_callHX {E : L2.St → XK} (hr : Room k X.A) (hN : X.N[i]? = some x) (hv : Vis X.env.scope x) (hx : ∀ σ, PassesAt (L2.CX X.prog X.w) X σ (E σ)) (ha : PA X (e :: es) t) (hdb : (x == ("__debug__" : Str)) = false := by decide) (hcd : (x == ("__classdict__" : Str)) = false := by decide)
    (he : (starEach (e :: es) X.env = (false, eval e X.env) :: starEach es X.env) := by rfl) (hpl : ((backTo pos (starEach es X.env)).any (·.1) = false) := by rfl) :
    PE X (.Call (.Name x p) (e :: es) [] pos) (tCallHX (HeldX X.prog X.w X.K X.mg X.base k) i E t) := by
  constructor
  rintro pins s σ H Q I ⟨f, sp, hs, hH, ht⟩
  obtain ⟨fd, ps, F, hk, hb⟩ := hH.ex
  refine wpAny_Call_Name_kw (thn ((pe_var (pos := p) hN hv hdb hcd).run pins s σ H (fun v H1 => v = .ref f ∧ H1 = H) I ⟨.ref f, hs, rfl, rfl⟩) ?_)
  rintro u s1 ⟨v, H1, I1, r1, rfl, rfl⟩
  cases r1
  exact PySem.W.callWith_K (h₀ := X.base) I.ok.mod.kin hk (thn (ha.run pos pins s1 σ _ _ I1 ht) fun us s2 ⟨vs, H2, I2, r, q⟩ => ⟨I2.kIn, run_fnS F hr hb (hx σ) I2 r q⟩) he hpl
/-- isinstance(the caught error, its own class) -/
def rIsX (a : Addr) (cls : Value) (d : Option Addr) (C : Addr) : List V → Hp → VK → Prop := fun xs H Q => xs = [.ref a, .ref C] ∧ cls = .ref C ∧ (∃ (dd : Addr) (fs : List (Str × V)), d = some dd ∧ H dd = some (.xd fs)) ∧ Q (.bl true) H
theorem call_isX {a C : Addr} {oe : Obj} {cls : Value} {d : Option Addr} {pn : List (Addr × Obj)} (hz : Zc cls d oe) (hf : ∃ vs, oe.data = .fields vs) : CallR (X.suite a ((a, oe) :: pn)) (.builtin "isinstance") (rIsX a cls d C) := by
  rintro pins s σ H xs us Q I r ⟨rfl, rfl, ⟨dd, fs, rfl, hd⟩, q⟩
  obtain ⟨u1, u2, rfl, r1, r2⟩ := vals2 r; skip
  obtain rfl : u1 = Value.ref a := r1
  obtain rfl : u2 = Value.ref C := r2
  obtain ⟨ha, _⟩ := I.pin (a, oe) (List.mem_append_left _ List.mem_cons_self)
  obtain ⟨vs, hv⟩ := hf
  obtain ⟨mA, hns, hr⟩ : ObjOk X.prog X.w H s.heap dd (.xd fs) := I.hok dd _ hd
  obtain ⟨od, ho, hl⟩ := lookIn_ns hns; skip
  have J : PySem.W.InstAt s.heap a oe C (some od) := ⟨ha, hz.1, by unfold PySem.W.notCls; rw [hv] <;> rfl, by rw [hz.2]; exact ho⟩
  refine call_isinstance (S := fun _ R s2 => s2 = s ∧ R (.ok (.ret (.bool true))) s2) ?_ ⟨rfl, .bl true, H, I, rfl, q⟩
  rintro prog w A R s2 ⟨rfl, hR⟩
  refine isinstance_outer ?_ (fun z => by cases z)
  unfold Builtin.«isinstance.nested»; skip
  refine wpAny_bind ((J.type (M := model prog w)).at ?_)
  rw [if_pos (beq_self_eq_true _)]; skip
  first
    | exact wpAny_bind (wpAny_rule (hR))
    | exact wpAny_bind (wpAny_rule (wpAny_pure hR))
    | exact wpAny_pure hR
end
end Pl

namespace Pl
open L2 PySem PySem.Spec PyProof.Rows
abbrev SuT := Value × (Addr → Value → Option Addr → TS)
/-- what clauses «except x as n» (all of one name n, slot i) wish of an exception, one behind another -/
def wAll (K : PySem.W.Frag) (i : Nat) (Wo : WX) (D : Ends) : List SuT → WX
  | [] => Wo
  | q :: r => wAs K q.1 i q.2 (wAll K i Wo D r) D
/-- the clauses, each with its class and its suite -/
inductive Cls (X : Cx) (n : Str) : List ExceptHandler → List SuT → Prop
  | nil : Cls X n [] []
  | cons {x : Str} {c : Value} {ts : Addr → Value → Option Addr → TS} {b1 : Stmt} {bs : List Stmt} {p1 p2 : Pos} {hs : List ExceptHandler} {l : List SuT} (names : Names X x c)
      (suite : ∀ (a : Addr) (o : Obj) (k : Value) (d : Option Addr) (pn : List (Addr × Obj)), Zc k d o → (∃ vs, o.data = .fields vs) → PSs (X.suite a ((a, o) :: pn)) (b1 :: bs) (ts a k d)) (rest : Cls X n hs l) :
      Cls X n (.ExceptHandler (some (.Name x p1)) (some n) (b1 :: bs) p2 :: hs) ((c, ts) :: l)
section
variable {X : Cx} {n : Str} {i : Nat} {Wo : WX} {D : Ends} {pins : List (Addr × Obj)} {H : Hp} {σ : L2.St} {s0 s1 : Shared}
/-- an exception of the class k, dict d, at a, on its way past the clauses -/
structure Onway (X : Cx) (pins : List (Addr × Obj)) (σ : L2.St) (H : Hp) (s0 s1 : Shared) (B : Heap) (a : Addr) (k : Value) (d : Option Addr) (g : Heap) : Prop where
  inv : Inv X pins σ H s0
  fly : HandSPX.FlyingZ B (X.env :: X.outer) a (Zc k d) g
  nb : ∀ b o, s0.heap.get? b = some o → b ∉ frs X.stack → B.get? b = some o
  up : s0.heap.UpToSlots g
  new : H a = none
  os : s1.os = s0.os
  bare : AllBare s1.gens
theorem Onway.now {B g : Heap} {a : Addr} {k : Value} {d : Option Addr} (w : Onway X pins σ H s0 s1 B a k d g) : Inv X pins σ H { s1 with heap := g } := w.inv.landed w.nb w.fly.1 w.up w.os w.bare
theorem Onway.far {B g : Heap} {a : Addr} {k : Value} {d : Option Addr} (w : Onway X pins σ H s0 s1 B a k d g) {o : Obj} {vs : Array Value} (ho : g.get? a = some o) (hd : o.data = .fields vs) : a ∉ frs (X.env :: X.outer) := by
  intro m
  obtain ⟨_, o2, e2, nf⟩ := w.fly.2.2.1.mem m
  cases ho.symm.trans e2
  exact nf _ hd
theorem clauses (hs : X.stack = X.env :: X.outer) (hf : X.env.frame = some X.env.locals) (nd : X.N.Nodup) (hi : X.N[i]? = some n) (hn : X.env.kindOf n = some .local) (tk : Takes X Wo) {B : Heap} {a : Addr} {k : Value} {d : Option Addr} {hds : List ExceptHandler} {l : List SuT} (cl : Cls X n hds l) :
    ∀ g : Heap, Onway X pins σ H s0 s1 B a k d g → wAll X.K i Wo D l k d σ H → wpAny (model X.prog X.w) X.A (handleBy (.ref a) X.env hds) (SP X pins D) X.xe { s1 with heap := g } := by
  induction cl with
  | nil =>
    intro g w hw
    refine wpAny_handleBy_nil ?_
    obtain ⟨_, _, _, o, vs, T, _, _, ho, _, hd, h1, _⟩ := id w.fly
    have last : wpAny (model X.prog X.w) X.A (setFlight (.ref a) X.env.frame) (fun _ s4 => wpAny (model X.prog X.w) X.A (throw (.ref a) : Sem Flow) (SP X pins D) X.xe s4) X.xe { s1 with heap := g } := by
      rw [hf]
      exact HandSPX.setFlight_upZ w.fly fun h4 held more => wpAny_throw (tk _ _ ⟨a, B, s0, pins, σ, H, k, d, rfl, w.inv, w.nb, w.up.trans more, .inr (.inr (hs ▸ held)), w.new, w.os, w.bare, hw⟩)
    unfold PySem.passOn
    refine wpAny_bind (wpAny_field ho hd h1 ?_)
    rw [if_neg (by simp : ¬ ((Value.ref T == Value.none) = true))]
    first | exact wpAny_bind last | exact wpAny_bind (wpAny_pure (wpAny_bind last))
  | @cons x c ts b1 bs p1 p2 hds2 l2 names suite rest ih =>
    intro g w hw
    obtain ⟨b, hb, yes, no⟩ := hw
    obtain ⟨o, vs, ho, hz, hd⟩ := w.fly.there
    have notL : a ≠ X.env.locals := fun e => w.far ho hd (List.mem_filterMap.mpr ⟨X.env, List.mem_cons_self, by rw [hf, e]⟩)
    have notF : a ∉ X.fs := fun m => by
      obtain ⟨e, he, q⟩ := List.mem_filterMap.mp m
      exact w.far ho hd (List.mem_filterMap.mpr ⟨e, List.mem_cons_of_mem _ he, q⟩)
    refine wpAny_handleBy_cons (codeAny_handlers_test ?_) (fun q => by cases q)
    have look : PySem.W.Looks (model X.prog X.w) g (typeOf (.ref a)) k := fun A Q E s kp q => wpAny_typeOf_ref (kp _ _ ho) (hz.1 ▸ q)
    have told := PySem.W.exm_one (M := model X.prog X.w) w.now.kIn look hb
    have inS := w.now.suite ho hd w.new notL notF
    have asked : ∀ {Q E : Value → Shared → Prop}, Q c { s1 with heap := g } → wpAny (model X.prog X.w) (X.A.mark (some (.ref a))) (eval (.Name x p1) X.env) Q E { s1 with heap := g } := fun {Q E} q => by
      rcases names with ⟨gl, db, m | ⟨m, v, nn⟩⟩
      · exact ld_glob (X := X.suite a ((a, o) :: (X.pn ++ pins))) inS gl m q db
      · exact ld_blt (X := X.suite a ((a, o) :: (X.pn ++ pins))) inS gl m v q nn db
    refine asked (told.here ?_)
    cases b with
    | false => exact ih g w (no rfl)
    | true =>
      refine codeAny_handlers_suite_as (HandSPX.lands_againZ w.fly fun g4 fly4 up4 => ?_)
      have w4 : Onway X pins σ H s0 s1 B a k d g4 := ⟨w.inv, fly4, w.nb, w.up.trans up4, w.new, w.os, w.bare⟩
      obtain ⟨o4, vs4, ho4, hz4, hd4⟩ := w4.fly.there
      refine store_ok (X := X.suite a ((a, o4) :: (X.pn ++ pins))) (v := .ref a) (w4.now.suite ho4 hd4 w4.new notL notF) nd hi (.inl hn) rfl (fun s5 I5 => ?_) (.inr hn)
      refine wpAny_mono ((suite a o4 k d (X.pn ++ pins) hz4 ⟨_, hd4⟩).run [] s5 _ H _ I5 (yes rfl a w4.new)) (fun f s6 hsp => ?_) (fun _ _ z => z.elim)
      have behind : ∀ {σ6 : L2.St} {H6 : Hp} {Q : Shared → Prop}, Inv (X.suite a ((a, o4) :: (X.pn ++ pins))) [] σ6 H6 s6 → (∀ s7, Inv X pins (σ6.set i none) H6 s7 → Q s7) →
          wpAny (model X.prog X.w) X.A (do bindName X.env n .none; unbindBehindTheSuite X.env n p2) (fun _ s7 => Q s7) X.xe s6 := fun {σ6 H6 Q} I6 q => gone_ok (I6.unsuite w.inv.ok) nd hi hn q
      cases f with
      | ret u =>
        obtain ⟨v, σ6, H6, I6, r, q⟩ := hsp
        exact behind I6 fun s7 I7 => ⟨_, _, _, I7, r, q⟩
      | next =>
        obtain ⟨σ6, H6, I6, q⟩ := hsp
        exact behind I6 fun s7 I7 => ⟨_, _, I7, q⟩
      | brk =>
        obtain ⟨σ6, H6, I6, q⟩ := hsp
        exact behind I6 fun s7 I7 => ⟨_, _, I7, q⟩
      | cont =>
        obtain ⟨σ6, H6, I6, q⟩ := hsp
        exact behind I6 fun s7 I7 => ⟨_, _, I7, q⟩
/-- try: body / except x as n: .. / except y as n: .. -/
theorem ps_try_all {body : List Stmt} {h0 : ExceptHandler} {hds : List ExceptHandler} {l : List SuT} {pos : Pos} {tb : WX → TS} (hs : X.stack = X.env :: X.outer) (hf : X.env.frame = some X.env.locals) (nd : X.N.Nodup) (hi : X.N[i]? = some n) (hn : X.env.kindOf n = some .local) (tk : Takes X Wo)
    (hb : ∀ (W : WX) (pn : List (Addr × Obj)) (xe : Value → Shared → Prop), Takes (X.tr pn xe) W → PassesOwn (model X.prog X.w) X.A X.env xe → PSs (X.tr pn xe) body (tb W)) (cl : Cls X n (h0 :: hds) l) :
    PS X (.Try body (h0 :: hds) [] [] pos) (fun D σ H => tb (wAll X.K i Wo D l) D σ H) := by
  constructor
  intro pins s σ H D I h
  have ok := I.ok
  have frames : X.A.frames = some (X.env :: X.outer) := by rw [ok.frames, hs]
  refine wpAny_Try_except (wpAny_mono ((hb (wAll X.K i Wo D l) (X.pn ++ pins) (fun e sa => wpAny (model X.prog X.w) X.A (noteFrame e X.env) (fun _ sb => wpAny (model X.prog X.w) X.A (setFlight e none) (fun _ sc =>
    wpAny (model X.prog X.w) X.A (handleBy e X.env (h0 :: hds)) (SP X pins D) X.xe sc) X.xe sb) X.xe sa) (fun u s1 thrown => ?_) PassesOwn.looking).run [] s σ H D (I.toTry _) h) (fun f s1 hsp => ?_) (fun _ _ z => z))
  · obtain ⟨a, B, s0, ps, σ1, H1, k, d, rfl, I1, nb, up, sky, new, os, bare, hw⟩ := thrown
    refine Sky.land Zc.steady frames hf (hs ▸ sky) fun g fly more => ?_
    exact clauses hs hf nd hi hn tk cl g ⟨I1.ofTry ok, fly, nb, up.trans more, new, os, bare⟩ hw
  · cases f with
    | ret u =>
      obtain ⟨v, σ1, H1, I1, r, q⟩ := hsp
      exact ⟨v, σ1, H1, I1.ofTry ok, r, q⟩
    | next =>
      obtain ⟨σ1, H1, I1, q⟩ := hsp
      exact wpAny_execs_nil ⟨σ1, H1, I1.ofTry ok, q⟩
    | brk =>
      obtain ⟨σ1, H1, I1, q⟩ := hsp
      exact ⟨σ1, H1, I1.ofTry ok, q⟩
    | cont =>
      obtain ⟨σ1, H1, I1, q⟩ := hsp
      exact ⟨σ1, H1, I1.ofTry ok, q⟩
end
end Pl

namespace Pl
open L2 PySem PySem.Spec PyProof.Rows
/-- the law is entered: tables (of code objects; cs: both) stand empty, nothing is being written out -/
theorem law_callM {P : Program} {w : World} {K : PySem.W.Frag} {mg mb : Str → Option Value} {k : Nat} {fa a : Addr} {cs : List (Addr × Addr)} {fd : FuncData} {x : Str} {sp : Sp} {t : Shared} {us : List Value} {ns : List Int}
    (kin : K.In t.heap) (gns : t.heap.Ns mainGlobals mg) (bns : t.heap.Ns builtinsNs mb) (bbt : ∀ y : Str, y ≠ "__name__" → mb y = bootBuiltins y) (nol : t.heap.NoLimit) (gen : t.gens = #[])
    (tab : ∀ q ∈ cs, t.heap.get? q.2 = some { cls := .none, data := .fields #[] }) (notK : ∀ q ∈ cs, K.lookup q.2 = none) (hc : ∀ q ∈ cs, PySem.W.CodeHd t.heap q.1 q.2)
    (bmn : ∃ (bm : Addr) (ob : Obj), mg "__builtins__" = some (.ref bm) ∧ bm ≠ builtinsNs ∧ t.heap.get? bm = some ob ∧ ob.cls = .type "module" ∧ ob.dict = some builtinsNs ∧ ob.data = .plain)
    (la : t.heap.get? a = some { cls := .type "list", data := .seq us.toArray }) (nums : IntsAre us ns) (short : ns.length ≤ sizeLine) (room : Room k callerA)
    (fn : ∀ base : Heap, K.In base → base.Ns mainGlobals mg → (∀ q ∈ cs, LamX.TabB base mg q.1 q.2) → FnG P w K mg base k fa fd [x] sp) (bind : ∀ (s : Shared) (u : Value), BindsTo s fd ⟨[u], []⟩ [(x, u)])
    (want : ∀ H : Hp, (∀ q ∈ cs, H q.2 = some (.tbl #[])) → SqL K H a (ns.map V.int) → sp [.ref a] H (fun v _ => v = .bl true) fun _ _ _ => True) :
    codeAny (model P w) callerA (.call (.ref fa) ⟨[.ref a], []⟩) (fun r s2 => r = .ok (.ret (.bool true)) ∧ OldK t.heap s2.heap ∧ s2.os = t.os ∧ AllBare s2.gens) t := by
  have rel := vals_ints nums
  have count := nums.length
  have at_ : ∀ b, (∃ q ∈ cs, b = q.2) → t.heap.get? b = some { cls := .none, data := .fields #[] } := fun b ⟨q, hq, e⟩ => e ▸ tab q hq
  have aPt : ¬ ∃ q ∈ cs, a = q.2 := fun e => by
    rw [at_ a e] at la
    have z : Data.fields #[] = Data.seq us.toArray := congrArg Obj.data (Option.some.inj la)
    cases z
  have main : ∀ H : Hp, (∀ q ∈ cs, H q.2 = some (.tbl #[])) → (∀ b, H b = none ∨ (∃ q ∈ cs, b = q.2) ∨ ∃ o xs, H b = some (.frz o (.lst xs))) → SqL K H a (ns.map V.int) → HOk P w H t.heap → (∀ b, H b ≠ none → b = a ∨ ∃ q ∈ cs, b = q.2) → (H a ≠ none → K.lookup a = none) →
      codeAny (model P w) callerA (.call (.ref fa) ⟨[.ref a], []⟩) (fun r s2 => r = .ok (.ret (.bool true)) ∧ OldK t.heap s2.heap ∧ s2.os = t.os ∧ AllBare s2.gens) t := by
    intro H hPt kinds seq ok only free
    have look : ∀ {b : Addr} {o : Obj}, t.heap.get? b = some o → H b = none → (hidT t.heap H).get? b = some o := fun {b o} e n => hidT_get e n
    have off : ∀ {b : Addr} {o : Obj}, t.heap.get? b = some o → (∀ ws n, o.data ≠ .seq ws n) → o.data ≠ .fields #[] → H b = none := fun {b o} e n1 n2 => by
      cases hb : H b with
      | none => rfl
      | some u =>
        rcases only b (by rw [hb]; simp) with rfl | isT
        · rw [la] at e
          cases e
          exact absurd rfl (n1 _ _)
        · rw [at_ b isT] at e
          cases e
          exact absurd rfl n2
    have nspace : ∀ {b : Addr} {m : Str → Option Value}, t.heap.Ns b m → (hidT t.heap H).Ns b m := fun {b m} ⟨o, es, ep, e, d, r⟩ =>
      ⟨o, es, ep, look e (off e (fun ws n z => by rw [d] at z; cases z) fun z => by rw [d] at z; cases z), d, r⟩
    have kbase : K.In (hidT t.heap H) := fun b o e => look (kin b o e) (by
      cases hb : H b with
      | none => rfl
      | some u =>
        rcases only b (by rw [hb]; simp) with rfl | ⟨q, hq, rfl⟩
        · rw [free (by rw [hb]; simp)] at e
          cases e
        · rw [notK q hq] at e
          cases e)
    obtain ⟨mc, l1, l2⟩ := nol
    have modu : L2.Mod K mg (hidT t.heap H) := ⟨kbase, nspace gns, ⟨mb, nspace bns, bbt⟩, mc, nspace l1, l2⟩
    have tabs : ∀ q ∈ cs, LamX.TabB (hidT t.heap H) mg q.1 q.2 := fun q hq => by
      have tabq := tab q hq
      obtain ⟨oc, fs, file, tf, flags, tg, inF, text, tt, e1, r1, r2, r3, r4, r5, r6, r7, r8, r9⟩ := id (hc q hq)
      obtain ⟨bm, ob, b1, b2, b3, b4, b5, b6⟩ := bmn
      obtain ⟨og, eg, epg, g1, g2, _⟩ := id gns
      refine ⟨⟨oc, fs, file, tf, flags, tg, inF, text, tt, look e1 (off e1 (fun ws n z => ?_) fun z => ?_), r1, r2, r3, r4, r5, r6, r7, r8, r9⟩, ⟨bm, ob, b1, b2, fun z => ?_, fun z => ?_, look b3 (off b3 (fun ws n z => ?_) fun z => ?_), b4, b5, b6⟩, fun z => ?_⟩
      · rw [r2] at z
        cases z
      · rw [r2] at z
        cases z
        simp at r3
      · rw [z, g1] at b3
        cases b3
        rw [g2] at b6
        cases b6
      · rw [z, tabq] at b3
        cases b3
        cases b6
      · rw [b6] at z
        cases z
      · rw [b6] at z
        cases z
      · rw [z, tabq] at g1
        cases g1
        cases g2
    have env : Env0 P w K mg (hidT t.heap H) callerA [] t H := ⟨rfl, modu, fun b o e => of_hidT e, Nat.le_of_eq (hidT_size _ _), trivial, (fun b hb => absurd (show b ∈ ([] : List Addr) from hb) List.not_mem_nil), ok, .of_eq gen⟩
    refine codeAny_mono ((fn _ kbase (nspace gns) tabs).run callerA [] t H ⟨[.ref a], []⟩ [.ref a] [.ref a] _ _ rfl room env (bind t (.ref a)) (.cons rfl .nil) (want H hPt seq)) ?_
    intro r s2 hr
    match r, hr with
    | .error _, hr => exact False.elim hr
    | .ok .next, hr => exact False.elim hr
    | .ok .brk, hr => exact False.elim hr
    | .ok .cont, hr => exact False.elim hr
    | .ok (.ret u), ⟨v, H2, os, bare, un, ok2, ru, ev⟩ =>
      obtain rfl : v = .bl true := ev
      obtain rfl : u = Value.bool true := ru
      have stay : ∀ b o, (¬ ∃ q ∈ cs, b = q.2) → t.heap.get? b = some o → s2.heap.get? b = some o := fun b o nb e => by
        rcases kinds b with hb | hb | ⟨ob, xs, hb⟩
        · exact un.keep b o e hb (fun z => absurd (show b ∈ ([] : List Addr) from z) List.not_mem_nil) (by simp)
        · exact absurd hb nb
        · obtain ⟨i1, _⟩ := ok b _ hb
          obtain ⟨i2, _⟩ := ok2 b _ (un.frzs b ob _ hb)
          rw [e] at i1
          cases i1
          exact i2
      have now : ∀ q ∈ cs, ∃ more : Array Value, s2.heap.get? q.2 = some { cls := .none, data := .fields (#[] ++ more) } := fun q hq => by
        obtain ⟨more, grow⟩ := un.tbls q.2 #[] (hPt q hq)
        exact ⟨more, ok2 q.2 _ grow⟩
      refine ⟨rfl, ⟨fun b o e => ?_, fun b o e => ?_⟩, os, bare⟩; skip
      · by_cases hb : ∃ q ∈ cs, b = q.2
        · obtain ⟨q, hq, rfl⟩ := hb
          obtain ⟨more, hm⟩ := now q hq
          have tabq := tab q hq
          rw [tabq] at e
          cases e
          exact .inr (.inl ⟨((hc q hq).tab tabq).isCodeTable, rfl, #[], more, rfl, hm⟩)
        · exact .inl (stay b o hb e)
      · by_cases hb : ∃ q ∈ cs, b = q.2
        · obtain ⟨q, hq, rfl⟩ := hb
          obtain ⟨more, hm⟩ := now q hq
          exact ⟨_, hm⟩
        · exact ⟨o, stay b o hb e⟩
  cases hk : K.lookup a with
  | some o =>
    have e := kin a o hk
    rw [la] at e
    cases e
    refine main (fun b => if ∃ q ∈ cs, b = q.2 then some (.tbl #[]) else none) (fun q hq => if_pos ⟨q, hq, rfl⟩) (fun b => ?_) (.inr ⟨_, us.toArray, _, hk, rfl, rfl, rfl, by rw [List.size_toArray, count]; exact short, by simpa using rel⟩) (fun b u z => ?_) (fun b z => ?_) fun z => absurd (if_neg aPt) z
    · by_cases hb : ∃ q ∈ cs, b = q.2
      · exact .inr (.inl hb)
      · exact .inl (if_neg hb)
    · by_cases hb : ∃ q ∈ cs, b = q.2
      · have z2 := (if_pos hb).symm.trans z
        cases z2
        exact at_ b hb
      · have z2 := (if_neg hb).symm.trans z
        cases z2
    · by_cases hb : ∃ q ∈ cs, b = q.2
      · exact .inr hb
      · exact absurd (if_neg hb) z
  | none =>
    refine main (fun b => if b = a then some (.frz { cls := .type "list", data := .seq us.toArray } (.lst (ns.map V.int))) else if ∃ q ∈ cs, b = q.2 then some (.tbl #[]) else none) (fun q hq => (if_neg (fun e => aPt ⟨q, hq, e.symm⟩)).trans (if_pos ⟨q, hq, rfl⟩)) (fun b => ?_) (.inl (.inr ⟨_, if_pos rfl⟩)) (fun b u z => ?_) (fun b z => ?_) fun _ => hk
    · by_cases h1 : b = a
      · exact .inr (.inr ⟨_, _, if_pos h1⟩)
      · by_cases h2 : ∃ q ∈ cs, b = q.2
        · exact .inr (.inl h2)
        · exact .inl ((if_neg h1).trans (if_neg h2))
    · by_cases h1 : b = a
      · have z2 := (if_pos h1).symm.trans z
        cases z2
        rw [h1]
        exact ⟨la, by rw [List.length_map]; exact short, us, _, rel, la⟩
      · have z2 := (if_neg h1).symm.trans z
        by_cases h2 : ∃ q ∈ cs, b = q.2
        · have z3 := (if_pos h2).symm.trans z2
          cases z3
          exact at_ b h2
        · have z3 := (if_neg h2).symm.trans z2
          cases z3
    · by_cases h1 : b = a
      · exact .inl h1
      · by_cases h2 : ∃ q ∈ cs, b = q.2
        · exact .inr h2
        · exact absurd ((if_neg h1).trans (if_neg h2)) z
/-- what the top leaves of the law: T, the tables with the names of what is made there -/
def LawM (l : PySem.W.OpenLaw) (w : World) (K : PySem.W.Frag) (mg : Str → Option Value) (fa : Addr) (h : Heap) (k : Nat) (sp : List (Addr × Addr) → Sp) : Prop :=
  ∃ (fd : FuncData) (cs : List (Addr × Addr)), (∀ q ∈ cs, h.get? q.2 = some { cls := .none, data := .fields #[] }) ∧ (∀ q ∈ cs, K.lookup q.2 = none) ∧ (∀ q ∈ cs, PySem.W.CodeHd h q.1 q.2) ∧ (∀ (s : Shared) (u : Value), BindsTo s fd ⟨[u], []⟩ [("_law_script", u)]) ∧
    ∀ base : Heap, K.In base → base.Ns mainGlobals mg → (∀ q ∈ cs, LamX.TabB base mg q.1 q.2) → FnG l.prog w K mg base k fa fd ["_law_script"] (sp cs)
theorem walkM {l : PySem.W.OpenLaw} {n k : Nat} {qp : Program} {loose : List Str} {XP : (Str → Option Value) → Heap → Prop} {YP : World → Heap → Prop} {d : DefRec} {K : Params → PySem.W.Frag} {sp : World → List (Addr × Addr) → Sp}
    (hn : l.most = some n) (hn2 : n ≤ sizeLine) (hdf : d.params.defaults = []) (room : Room k callerA) (hY : ∀ (w : World) (h : Heap), YP w h → (K w.params).In h)
    (want : ∀ (w : World) (cs : List (Addr × Addr)) (H : Hp) (a : Addr) (ns : List Int), (∀ q ∈ cs, H q.2 = some (.tbl #[])) → SqL (K w.params) H a (ns.map V.int) → sp w cs [.ref a] H (fun v _ => v = .bl true) fun _ _ _ => True)
    (F : ∀ (w : World) (mg : Str → Option Value) (fa : Addr) (h : Heap), YP w h → (K w.params).In h → h.Ns mainGlobals mg → mg d.name = some (.ref fa) → LawM l w (K w.params) mg fa h k (sp w)) :
    PySem.W.WalkO qp loose XP YP l.row.toRowW d [] (fun f vs => PySem.call f vs) := by
  refine Att.attach_callB hn hdf ?_
  intro w s₀ s₁ mg mb fa o pm cd doc a vs ns G Y ho hd hcd hmg hobj hints hlen hbits hg
  obtain ⟨fd, cs, tab, notK, hc, bind, fn⟩ := F w mg fa _ Y (hY w _ Y) G.T.g hmg
  exact law_callM (hY w _ Y) G.T.g G.T.b G.T.builtins G.T.nolimit hg tab notK hc G.T.bmain hobj hints (Nat.le_trans hlen hn2) room fn bind fun H hPt seq => want w cs H a ns hPt seq
end Pl

namespace Pl
open L2 PySem PySem.Spec PyProof.Rows
set_option maxHeartbeats 4100000 in
/-- enumerate(v) of anything that begins so -/
theorem meets_enumB {v : Value} {o : Obj} {Hb : Heap → Prop} (B : Begins v o Hb) :
    Meets (Builtin.«enumerate.__new__» ⟨[.type "enumerate", v], []⟩) (fun _ R s => Hb s.heap ∧
      R (.ok (.ret (.ref (s.heap.push o).objs.size))) { s with heap := (s.heap.push o).push { cls := .type "enumerate", data := .fields #[.none, .bool false, .ref s.heap.objs.size, rawInt 0, .none, .none] } }) := by
  refine .of_wp ?_
  rintro prog w A R ⟨hp, gn, dr, tk, os⟩ ⟨h1, goal⟩
  have isub := sub_enumerate
  have first_ : ∀ {A' : Around} {E : Value → Shared → Prop} {Q : Value → Shared → Prop}, Q (.ref hp.objs.size) ⟨hp.push o, gn, dr, tk, os⟩ → wpAny (model prog w) A' (pyIter v) Q E ⟨hp, gn, dr, tk, os⟩ := fun q => B.iter prog w _ _ ⟨hp, gn, dr, tk, os⟩ _ h1 q
  wp_walk using first_
  refine wpAny_stack_any fun st => wpAny_pure ?_; skip
  split
  · rename_i c _ _ _ _ _
    cases (c == Value.type "enumerate") <;> (wp_walk using first_; exact ⟨_, rfl, goal⟩)
  · wp_walk using first_
    exact ⟨_, rfl, goal⟩
theorem enum_new {prog : Program} {w : World} {A : Around} {E : Value → Shared → Prop} {s : Shared} {v : Value} {o : Obj} {Hb : Heap → Prop} {Q : Value → Shared → Prop} (B : Begins v o Hb) (h1 : Hb s.heap)
    (q : ∀ g, IsEnum g (s.heap.objs.size + 1) s.heap.objs.size 0 .none → g.get? s.heap.objs.size = some o → (∀ b u, s.heap.get? b = some u → g.get? b = some u) → Q (.ref (s.heap.objs.size + 1)) { s with heap := g }) :
    wpAny (model prog w) A (call (.type "enumerate") [v]) Q E s := by
  refine callType_new F.called_enumerate (by decide) (F.typeCall_enumerate_1 _) (F.newCall_enumerate_1 _) (fun obj => F.args_object_init_2 obj _) F.entry_enumerate_new (meets_enumB B) ⟨h1, ?_⟩
  have size : (s.heap.push o).objs.size = s.heap.objs.size + 1 := Heap.size_push ..
  have at_ := Heap.get?_push_size (s.heap.push o) (o := { cls := .type "enumerate", data := .fields #[.none, .bool false, .ref s.heap.objs.size, rawInt 0, .none, .none] }) rfl
  rw [size] at at_
  show _ ∧ _
  rw [size]
  exact ⟨⟨_, at_, rfl⟩, q _ at_ (Heap.get?_push_of_some _ (Heap.get?_push_size _ B.free)) fun b u e => Heap.get?_push_of_some _ (Heap.get?_push_of_some _ e)⟩
/-- the tuple at a, each item with its number in a new pair -/
def Iet (K : PySem.W.Frag) (a : Addr) : It :=
  ⟨fun i H => ∃ (xs : List V) (x : V), SqT K H a xs ∧ xs[i]? = some x, fun i H v G => ∃ T x, v = .ref T ∧ H T = none ∧ G = upd H T (.tup [.int (i : Nat), x]) ∧ ∀ xs, SqT K H a xs → xs[i]? = some x, fun i H => ∃ xs : List V, SqT K H a xs ∧ xs.length = i⟩
theorem turn_enumT {P : Program} {w : World} {K : PySem.W.Frag} {elts : List Expr} {kk : Nat} {tpos : Pos} (a e it : Addr) :
    Turn P w K (.Tuple elts kk tpos) (Iet K a) [e, it] e (fun i h => (∃ old, IsEnum h e it ((i : Nat) : Int) old) ∧ h.IsTupleIter it a i ∧ e ≠ it ∧ a ≠ it ∧ a ≠ e) where
  mem := List.mem_cons_self
  obj := by
    rintro i h ⟨⟨old, he⟩, ⟨o, ho, hc, hd⟩, _⟩ b hb
    rcases List.mem_cons.mp hb with rfl | hb; skip
    · exact ⟨_, he, fun v q => nomatch q⟩
    · rw [List.mem_singleton.mp hb]; skip
      exact ⟨o, ho, fun v q => by rw [hd] at q; cases q⟩
  keep := by
    rintro i h g ⟨⟨old, he⟩, hit, n⟩ k
    exact ⟨⟨old, k e (by simp) _ he⟩, hit.at fun o q => k it (by simp) o q, n⟩
  item := by
    rintro X rfl rfl rfl hc i pins s σ H E I hf ⟨⟨old, he⟩, hit, n1, n2, n3⟩ ⟨xs, x, hq, hx⟩
    obtain ⟨its, rv, p, hz⟩ := I.tuple hq; skip
    obtain ⟨u, hu, ru⟩ := rv.get hx; skip
    have le : e < s.heap.objs.size := Heap.lt_size he
    have li : it < s.heap.objs.size := by
      obtain ⟨_, q, _⟩ := hit
      exact Heap.lt_size q
    have lt : i < its.toArray.size := by
      rw [List.size_toArray]
      exact (List.getElem?_eq_some_iff.mp hu).1
    refine wpAny_pyNext_enum_itemD (Draws.tuple (A := X.A.in1) (I.ok.hd hc) it a n2 its.toArray) he ⟨hit, p⟩ lt n1 (by simp [n1, n3.symm]) fun y g tk hy ho st hT size hk => ?_
    have ey : y = u := by
      have e1 : its[i]? = some y := by simpa using hy
      exact Option.some.inj (e1.symm.trans hu)
    subst ey
    refine ⟨_, rfl, wpAny_letOwnedTupleGo_enum (s := { s with heap := g, toks := tk + 1 }) ho fun g2 he2 sb => ?_⟩
    have hT2 : g2.get? s.heap.objs.size = some { cls := .type "tuple", data := .seq #[.int i tk, y] } := (sb.2 _ (Nat.ne_of_gt le)).trans hT
    have new : ObjOk X.prog X.w (upd H s.heap.objs.size (.tup [.int (i : Nat), x])) g2 s.heap.objs.size (.tup [.int (i : Nat), x]) := ⟨by show 2 ≤ sizeLine; decide, [.int i tk, y], .cons ⟨_, rfl⟩ (.cons ru .nil), ⟨_, hT2, rfl, _, rfl⟩⟩
    have I1 : Inv X pins σ (upd H s.heap.objs.size (.tup [.int (i : Nat), x])) { s with heap := g2, toks := tk + 1 } :=
      I.turnedNew (ch := [e, it])
        (fun b ob hb q => (sb.2 b (fun z => hb (by simp [z]))).trans (hk b ob (fun z => hb (by simp [z])) (fun z => hb (by simp [z])) q)) hf (Nat.le_refl _) new
    refine ⟨.ref s.heap.objs.size, _, I1, rfl, ⟨_, x, rfl, I.hok.fresh (Nat.le_refl _), rfl, fun ys hy => ?_⟩, ⟨⟨y, ?_⟩, st.1.at fun o q => (sb.2 it (Ne.symm n1)).trans q, n1, n2, n3⟩, fun b hb => ?_⟩
    · rw [I.tuple_inj hy hq]
      exact hx
    · rw [show ((i + 1 : Nat) : Int) = (i : Int) + 1 from by omega]
      exact he2
    · have lb : b < s.heap.objs.size := by
        rcases List.mem_cons.mp hb with rfl | hb; skip
        · exact le
        · rw [List.mem_singleton.mp hb]; skip
          exact li
      rw [upd_ne (Nat.ne_of_lt lb)]
      exact (hf b hb).1
  done := by
    rintro X rfl rfl rfl hc i pins s σ H E I hf ⟨⟨old, he⟩, hit, n1, n2, n3⟩ ⟨xs, hq, hx⟩
    obtain ⟨its, rv, p, hz⟩ := I.tuple hq; skip
    obtain ⟨f0, f1, f2, f3, f4, f5⟩ := hf it (by simp); skip
    have len : its.toArray.size = i := by
      rw [List.size_toArray, ← rv.length]
      exact hx
    subst len
    exact wpAny_pyNext_enum_endD (Draws.tuple (A := X.A.in1) (I.ok.hd hc) it a n2 its.toArray) he ⟨hit, p⟩ fun g eb => ⟨rfl, I.turned (t' := s.toks) (fun b o hb q => eb b o hb q) f0 f1 f3 f4 f5⟩
  self := fun A i s Q E st hh => let ⟨⟨_, he⟩, _⟩ := st; wpAny_pyIter_enum he hh
def iEnumT (K : PySem.W.Frag) (ta : TA) : TI := fun σ H R => ta σ H fun vs H1 => ∃ a xs, vs = [.ref a] ∧ SqT K H1 a xs ∧ R (Iet K a) H1
theorem pi_enumT {X : Cx} {e : Expr} {ta : TA} {p pos tpos : Pos} {elts : List Expr} {kk : Nat} (hg : Gl X "enumerate") (hm : X.mg "enumerate" = none) (ha : PA X [e] ta) (hs : (starEach [e] X.env = [(false, eval e X.env)]) := by rfl) :
    PI X (.Tuple elts kk tpos) (.Call (.Name "enumerate" p) [e] [] pos) (iEnumT X.K ta) := by
  constructor
  intro pins s σ H R I h
  refine Call_ (ld_blt I hg hm boot_enumerate (PyProof.Rows.callWith_type1 (thn (ha.run pos pins s σ H _ I h) ?_) hs rfl))
  rintro us s1 ⟨vs, H1, I1, r1, a, xs, rfl, hq, q⟩
  obtain ⟨u, rfl, ru⟩ := vals1 r1; skip
  cases ru
  obtain ⟨its, rv, pt, hz⟩ := I1.tuple hq; skip
  refine enum_new (begins_tuple a its.toArray) pt fun g he hi hk => wpAny_pyIter_enum he ?_
  have la : a < s1.heap.objs.size := by
    obtain ⟨o, ho, _⟩ := pt
    exact Heap.lt_size ho
  refine ⟨s1.heap.objs.size + 1, [s1.heap.objs.size + 1, s1.heap.objs.size], _, _, H1, rfl, I1.kept (t' := s1.toks) hk, turn_enumT a (s1.heap.objs.size + 1) s1.heap.objs.size, ⟨⟨.none, he⟩, ⟨_, hi, rfl, rfl⟩, Nat.succ_ne_self _, Nat.ne_of_lt la, Nat.ne_of_lt (Nat.lt_succ_of_lt la)⟩, fun b hb => ?_, q⟩
  have le : s1.heap.objs.size ≤ b := by
    rcases List.mem_cons.mp hb with rfl | hb; skip
    · exact Nat.le_succ _
    · rw [List.mem_singleton.mp hb]; skip
      exact Nat.le_refl _
  exact I1.fpOk le (I1.hok.fresh le)
theorem walk_enumT {K : PySem.W.Frag} {a : Addr} {xs : List V} : Walk (Iet K a) xs.length (fun H => SqT K H a xs) (YPair (fun i => some (.int (i : Nat))) (fun i => xs[i]?)) := by
  refine ⟨fun i _ hi q => ⟨xs, xs[i], q, by simp [hi]⟩, fun _ q => ⟨xs, q, rfl⟩, ?_⟩
  rintro i H v H' _ q ⟨T, x, h1, h2, h3, h4⟩
  exact ⟨T, .int (i : Nat), x, h1, h2, h3, rfl, h4 xs q⟩; skip
end Pl

namespace Pl
open L2 PySem PySem.Spec PyProof.Rows
/-! ### the text by places -/
def top (i : Nat) : Stmt := PySem.Challenge.pw_plainstore_k21_moves_and_sights.main.body.getD i (.Pass ⟨0, 0, 0, 0⟩)
abbrev sNumber : Stmt := top 7
abbrev sIsNumber : Stmt := top 7
abbrev sIsWithin : Stmt := top 8
abbrev sDistance : Stmt := top 12
abbrev sIsLet : Stmt := top 13
abbrev sSights : Stmt := top 14
abbrev sCkPages : Stmt := top 18
abbrev sCkPage : Stmt := top 15
abbrev sCkRule : Stmt := top 16
abbrev sCkWalk : Stmt := top 19
abbrev sFirst : Stmt := top 20
abbrev sBarred : Stmt := top 17
abbrev sSeen : Stmt := top 21
abbrev sPool : Stmt := top 23
abbrev sTake : Stmt := top 24
abbrev sOne : Stmt := top 25
abbrev sVisited : Stmt := top 26
abbrev sMay : Stmt := top 27
abbrev sLSights : Stmt := top 28
abbrev sAllLet : Stmt := top 29
abbrev sDrawn : Stmt := top 30
abbrev sTried : Stmt := top 31
abbrev sLFirst : Stmt := top 32
abbrev sMovesR : Stmt := top 33
abbrev sOddR : Stmt := top 34
abbrev sRefused : Stmt := top 35
abbrev sLaw : Stmt := top 36
/-- what the top has left of constants and built-ins -/
structure Cst (mg : Str → Option Value) : Prop where
  isi : mg "isinstance" = none
  len : mg "len" = none
  tint : mg "int" = none
  tbool : mg "bool" = none
  tstr : mg "str" = none
  tlst : mg "list" = none
  ttup : mg "tuple" = none
  rng : mg "range" = none
  max_ : mg "max" = none
  min_ : mg "min" = none
  rpr : mg "repr" = none
  enum : mg "enumerate" = none
  pages : ∃ t, mg "MOST_PAGES" = some (.int 6 t)
/-- a def of the text as its callers see it -/
structure Df (P : Program) (w : World) (K : PySem.W.Frag) (mg : Str → Option Value) (base : Heap) (k : Nat) (x : Str) (ps : List Str) (sp : Sp) : Prop where
  ex : ∃ (f : Addr) (fd : FuncData), FnOk P w K mg base CX0 k f fd ps sp ∧ mg x = some (.ref f) ∧ PySem.W.keepIn K (.ref f) = true ∧ Binds K fd ps []
/-- one that may raise -/
structure DfX (P : Program) (w : World) (K : PySem.W.Frag) (mg : Str → Option Value) (base : Heap) (k : Nat) (x : Str) (ps : List Str) (sp : Sp) : Prop where
  ex : ∃ (f : Addr) (fd : FuncData), FnOk P w K mg base (L2.CX P w) k f fd ps sp ∧ mg x = some (.ref f) ∧ PySem.W.keepIn K (.ref f) = true ∧ Binds K fd ps []
/-- a flat value and what it is -/
inductive Fl : V → PyData → Prop
  | non : Fl .non .none
  | bl (b : Bool) : Fl (.bl b) (.bool b)
  | int (i : Int) : Fl (.int i) (.int i)
  | str (x : Str) : Fl (.str x) (.str x)
theorem Fl.dv {v : V} {d : PyData} {m : Bool} {z : Addr} {H : Hp} {k : Bool} (h : Fl v d) : Dv m z H k v d := by
  cases h with
  | non => exact .non
  | bl b => exact .bl b
  | int i => exact .int i
  | str x => exact .str x
def kindOf : PyData → String
  | .none => "NoneType"
  | .bool _ => "bool"
  | .int _ => "int"
  | _ => "str"
theorem Fl.ty {K : PySem.W.Frag} {H : Hp} {v : V} {d : PyData} (h : Fl v d) : TyX K H v (.type (kindOf d)) := by
  cases h with
  | non => exact .base .non
  | bl b => exact .base (.bl b)
  | int i => exact .base (.int i)
  | str x => exact .base (.str x)
def isIB : PyData → Bool
  | .int _ => true
  | .bool _ => true
  | _ => false
theorem kit_int {K : PySem.W.Frag} {v : V} {d : PyData} (h : Fl v d) : PySem.W.kitOne K (.type (kindOf d)) (.type "int") = some (isIB d) := by
  cases h with
  | non => exact kit_ty (show kitB "NoneType" "int" = some false from by decide +kernel)
  | bl b => exact kit_ty (show kitB "bool" "int" = some true from by decide +kernel)
  | int i => exact kit_ty (show kitB "int" "int" = some true from by decide +kernel)
  | str x => exact kit_ty (show kitB "str" "int" = some false from by decide +kernel)
def isB : PyData → Bool
  | .bool _ => true
  | _ => false
theorem kit_bool {K : PySem.W.Frag} {v : V} {d : PyData} (h : Fl v d) : PySem.W.kitOne K (.type (kindOf d)) (.type "bool") = some (isB d) := by
  cases h with
  | non => exact kit_ty (show kitB "NoneType" "bool" = some false from by decide +kernel)
  | bl b => exact kit_ty (show kitB "bool" "bool" = some true from by decide +kernel)
  | int i => exact kit_ty (show kitB "int" "bool" = some false from by decide +kernel)
  | str x => exact kit_ty (show kitB "str" "bool" = some false from by decide +kernel)
def isNum : PyData → Bool
  | .int _ => true
  | _ => false
def within (d : PyData) (lo hi : Int) : Bool := match d with
  | .int i => decide (lo ≤ i) && decide (i ≤ hi)
  | _ => false
theorem within_no {d : PyData} {lo hi : Int} (h : isNum d = false) : within d lo hi = false := by
  cases d <;> first | rfl | cases h
theorem within_inv {v : V} {d : PyData} {lo hi : Int} (f : Fl v d) (h : within d lo hi = true) : ∃ i, v = .int i ∧ d = .int i ∧ lo ≤ i ∧ i ≤ hi := by
  cases f with
  | int i =>
    have h' : (decide (lo ≤ i) && decide (i ≤ hi)) = true := h
    rw [Bool.and_eq_true, decide_eq_true_eq, decide_eq_true_eq] at h'
    exact ⟨i, rfl, rfl, h'.1, h'.2⟩
  | non => cases h
  | bl b => cases h
  | str x => cases h
def spN : Sp := fun vs H Q _ => ∃ (v : V) (d : PyData), vs = [v] ∧ Fl v d ∧ Q (.bl (isNum d)) H
def spW : Sp := fun vs H Q _ => ∃ (v : V) (d : PyData) (lo hi : Int), vs = [v, .int lo, .int hi] ∧ Fl v d ∧ Q (.bl (within d lo hi)) H
section
variable {P : Program} {K : PySem.W.Frag} {w : World} {base : Heap} {mg : Str → Option Value}
theorem scIsNumber : FnScope ["value"] ["value"] (defScope sIsNumber) := ⟨rfl, rfl, rfl, by decide +kernel, rfl, by decide +kernel, by decide +kernel⟩
theorem ok_number {f : Addr} {fd : FuncData} (F : Fun K "is_number" "is_number" sIsNumber f fd) (T : Cst mg) : FnOk P w K mg base CX0 1 f fd ["value"] spN := by
  refine F.ok scIsNumber (fun vs H Q E h => ?_) (fun cdv A outer s H vs Q E hr h => ?_)
  · obtain ⟨v, d, rfl, _⟩ := h
    rfl
  · obtain ⟨v, d, rfl, hd, q⟩ := h
    refine ⟨_, pss_one (ps_ret (pe_and (pe_callB call_isi (by rfl) T.isi (by decide +kernel) (pa_cons (pv 0) (pa_cons (pe_bltn (v := .ty "int") (by rfl) T.tint (by decide +kernel) rfl) pa_nil)))
      (pe_one (pe_not (pe_callB call_isi (by rfl) T.isi (by decide +kernel) (pa_cons (pv 0) (pa_cons (pe_bltn (v := .ty "bool") (by rfl) T.tbool (by decide +kernel) rfl) pa_nil))))))), ?_⟩
    refine ⟨_, rfl, v, _, _, _, _, rfl, .ty _, hd.ty, kit_int hd, _, rfl, ?_⟩
    refine ite2 (fun e => ?_) fun e => ?_
    · refine ⟨_, rfl, v, _, _, _, _, rfl, .ty _, hd.ty, kit_bool hd, _, rfl, ?_⟩
      cases hd <;> first | exact q | cases e
    · cases hd <;> first | exact q | exact absurd rfl e
theorem scIsWithin : FnScope ["value", "least", "most"] ["value", "least", "most"] (defScope sIsWithin) := ⟨rfl, rfl, rfl, by decide +kernel, rfl, by decide +kernel, by decide +kernel⟩
theorem ok_within {f : Addr} {fd : FuncData} (F : Fun K "is_within" "is_within" sIsWithin f fd) (D : Df P w K mg base 1 "is_number" ["value"] spN) : FnOk P w K mg base CX0 2 f fd ["value", "least", "most"] spW := by
  obtain ⟨fN, fdN, GN, mN, kN, bN⟩ := D.ex
  refine F.ok scIsWithin (fun vs H Q E h => ?_) (fun cdv A outer s H vs Q E hr h => ?_)
  · obtain ⟨v, d, lo, hi, rfl, _⟩ := h
    rfl
  · obtain ⟨v, d, lo, hi, rfl, hd, q⟩ := h
    refine ⟨_, pss_one (ps_ret (pe_and (pe_call GN hr (by rfl) mN kN bN .nil pass0 (pa_cons (pv 0) pa_nil)) (pe_one (pe_chain op_le op_le (pv 1) (pv 0) (pv 2))))), ?_⟩
    refine ⟨v, rfl, v, d, rfl, hd, ⟨_, rfl, ?_⟩⟩
    refine ite2 (fun e => ?_) fun e => ?_
    · cases hd with
      | int i =>
        refine ⟨_, rfl, _, rfl, _, _, rfl, rfl, _, rfl, ?_⟩; skip
        have q2 : Q (.bl (decide (lo ≤ i) && decide (i ≤ hi))) H := q
        refine ite2 (fun e => ?_) fun e => ?_
        · refine ⟨_, rfl, _, _, rfl, rfl, ?_⟩
          rw [show decide (lo ≤ i) = true from e, Bool.true_and] at q2
          exact q2
        · rw [show decide (lo ≤ i) = false from Bool.eq_false_iff.mpr e, Bool.false_and] at q2
          exact q2
      | non => cases e
      | bl b => cases e
      | str x => cases e
    · rw [within_no (Bool.eq_false_iff.mpr e)] at q
      exact q
end
/-- what the written part says of an error's class: C, called x, made by the def at fI -/
structure ErrT (K : PySem.W.Frag) (mg : Str → Option Value) (x : Str) (C fI : Addr) : Prop where
  ox : OexC K C
  gC : mg x = some (.ref C)
  iC : PySem.W.findIn K (.ref C) "__init__" = some (some (.ref fI))
  tI : PySem.W.typeIn K (.ref fI) = some (.type "function")
  no : PySem.W.findIn K (.ref C) "told" = some none
def spInit (K : PySem.W.Frag) : Sp := fun vs H Q _ => ∃ (a C : Addr) (y : V), vs = [.ref a, y] ∧ OexC K C ∧ PySem.W.findIn K (.ref C) "told" = some none ∧ H a = some (exo a C none) ∧ ∀ dx, H dx = none → dx ≠ a → Q .non (upd (upd H dx (exd dx [("told", y)])) a (exo a C (some dx)))
/-- how the class is made, as the raising defs see it -/
structure Mak (P : Program) (w : World) (K : PySem.W.Frag) (mg : Str → Option Value) (base : Heap) (x : Str) (C : Addr) : Prop where
  ex : ∃ (fI : Addr) (fd : FuncData), ErrT K mg x C fI ∧ FnOk P w K mg base CX0 1 fI fd ["self", "told"] (spInit K) ∧ Binds K fd ["self", "told"] []
/-- C(v) leaves -/
def Rais (C : Addr) (v : V) (H : Hp) (E : XK) : Prop := ∀ (d : Addr) (H' : Hp), Same H H' → H' d = some (.xd [("told", v)]) → E (.ref C) (some d) H'
theorem Rais.same {C : Addr} {v : V} {H G : Hp} {E : XK} (r : Rais C v H E) (s : Same H G) : Rais C v G E := fun d H' s' h => r d H' (s.trans s') h
/-- raise C(e), where e reads as v -/
theorem raised {K : PySem.W.Frag} {C : Addr} {v : V} {σ : L2.St} {H : Hp} {E : XK} {ta : TA} (ox : OexC K C) (no : PySem.W.findIn K (.ref C) "told" = some none) (h : ∀ k : List V → Hp → Prop, k [v] H → ta σ H k) (q : Rais C v H E) : tMkO C (spInit K) [] ta σ H E := by
  refine h _ ⟨by simp, fun a ha => ?_⟩
  refine ⟨a, C, v, rfl, ox, no, upd_same, fun dx hdx ne => ⟨rfl, dx, [(("told" : Str), v)], upd_same, ?_, ?_, ?_⟩⟩
  · rw [upd_ne ne, upd_same]
  · rw [upd_ne ne] at hdx
    exact hdx
  · have hdG : H dx = none := by
      rw [upd_ne ne] at hdx
      exact hdx
    refine q dx _ (fun b o hb => ?_) upd_same
    have n1 : b ≠ dx := ne_of_none hb hdG
    have n2 : b ≠ a := ne_of_none hb ha
    rw [upd_ne n1, del_ne n2, upd_ne n2, upd_ne n1, upd_ne n2]
    exact hb
theorem raised_v {K : PySem.W.Frag} {C : Addr} {v : V} {i : Nat} {σ : L2.St} {H : Hp} {E : XK} (ox : OexC K C) (no : PySem.W.findIn K (.ref C) "told" = some none) (hv : σ[i]? = some (some v)) (q : Rais C v H E) : tMkO C (spInit K) [] (tCons (tVar i) tNil) σ H E :=
  raised ox no (fun k hk => ⟨v, hv, hk⟩) q
theorem raised_c {K : PySem.W.Frag} {C : Addr} {v : V} {σ : L2.St} {H : Hp} {E : XK} (ox : OexC K C) (no : PySem.W.findIn K (.ref C) "told" = some none) (q : Rais C v H E) : tMkO C (spInit K) [] (tCons (tC v) tNil) σ H E :=
  raised ox no (fun k hk => hk) q
section
variable {P : Program} {K : PySem.W.Frag} {w : World} {base : Heap} {mg : Str → Option Value} {C C2 C3 : Addr}
theorem scInit2 : FnScope ["self", "told"] ["self", "told"] (defScope (inClass (top 2) 0)) := ⟨rfl, rfl, rfl, by decide +kernel, rfl, by decide +kernel, by decide +kernel⟩
theorem ok_init2 {f : Addr} {fd : FuncData} (F : Fun K "__init__" "NoCount.__init__" (inClass (top 2) 0) f fd) : FnOk P w K mg base CX0 1 f fd ["self", "told"] (spInit K) := by
  refine F.ok scInit2 (fun vs H Q E h => ?_) (fun cdv A outer s H vs Q E hr h => ?_)
  · obtain ⟨a, C, y, rfl, _⟩ := h
    rfl
  · obtain ⟨a, C, y, rfl, T, no, ha, q⟩ := h
    exact ⟨_, pss_one (ps_ost (pv 0) (pv 1)), y, rfl, .ref a, rfl, a, C, rfl, T, no, .inl ⟨ha, q⟩⟩
theorem scInit3 : FnScope ["self", "told"] ["self", "told"] (defScope (inClass (top 3) 0)) := ⟨rfl, rfl, rfl, by decide +kernel, rfl, by decide +kernel, by decide +kernel⟩
theorem ok_init3 {f : Addr} {fd : FuncData} (F : Fun K "__init__" "NoPage.__init__" (inClass (top 3) 0) f fd) : FnOk P w K mg base CX0 1 f fd ["self", "told"] (spInit K) := by
  refine F.ok scInit3 (fun vs H Q E h => ?_) (fun cdv A outer s H vs Q E hr h => ?_)
  · obtain ⟨a, C, y, rfl, _⟩ := h
    rfl
  · obtain ⟨a, C, y, rfl, T, no, ha, q⟩ := h
    exact ⟨_, pss_one (ps_ost (pv 0) (pv 1)), y, rfl, .ref a, rfl, a, C, rfl, T, no, .inl ⟨ha, q⟩⟩
theorem scInit4 : FnScope ["self", "told"] ["self", "told"] (defScope (inClass (top 4) 0)) := ⟨rfl, rfl, rfl, by decide +kernel, rfl, by decide +kernel, by decide +kernel⟩
theorem ok_init4 {f : Addr} {fd : FuncData} (F : Fun K "__init__" "NoWay.__init__" (inClass (top 4) 0) f fd) : FnOk P w K mg base CX0 1 f fd ["self", "told"] (spInit K) := by
  refine F.ok scInit4 (fun vs H Q E h => ?_) (fun cdv A outer s H vs Q E hr h => ?_)
  · obtain ⟨a, C, y, rfl, _⟩ := h
    rfl
  · obtain ⟨a, C, y, rfl, T, no, ha, q⟩ := h
    exact ⟨_, pss_one (ps_ost (pv 0) (pv 1)), y, rfl, .ref a, rfl, a, C, rfl, T, no, .inl ⟨ha, q⟩⟩
theorem scInit5 : FnScope ["self", "told"] ["self", "told"] (defScope (inClass (top 5) 0)) := ⟨rfl, rfl, rfl, by decide +kernel, rfl, by decide +kernel, by decide +kernel⟩
theorem ok_init5 {f : Addr} {fd : FuncData} (F : Fun K "__init__" "NoMoves.__init__" (inClass (top 5) 0) f fd) : FnOk P w K mg base CX0 1 f fd ["self", "told"] (spInit K) := by
  refine F.ok scInit5 (fun vs H Q E h => ?_) (fun cdv A outer s H vs Q E hr h => ?_)
  · obtain ⟨a, C, y, rfl, _⟩ := h
    rfl
  · obtain ⟨a, C, y, rfl, T, no, ha, q⟩ := h
    exact ⟨_, pss_one (ps_ost (pv 0) (pv 1)), y, rfl, .ref a, rfl, a, C, rfl, T, no, .inl ⟨ha, q⟩⟩
/-- v is checked -/
def Ck (C : Addr) (v : V) (d : PyData) (lo hi : Int) (H : Hp) (E : XK) (G : Prop) : Prop := Fl v d ∧ (within d lo hi = true → G) ∧ (within d lo hi = false → Rais C v H E)
theorem within_yes {i lo hi : Int} (a : lo ≤ i) (b : i ≤ hi) : within (.int i) lo hi = true := by
  show (decide (lo ≤ i) && decide (i ≤ hi)) = true
  rw [decide_eq_true a, decide_eq_true b]
  rfl
theorem ck_int {i lo hi : Int} {H : Hp} {E : XK} {G : Prop} (a : lo ≤ i) (b : i ≤ hi) (g : G) : Ck C (.int i) (.int i) lo hi H E G := ⟨.int i, fun _ => g, fun e => by
  rw [within_yes a b] at e
  cases e⟩
theorem ck_odd {v : V} {e : PyData} {lo hi : Int} {H : Hp} {E : XK} {G : Prop} (f : Fl v e) (n : within e lo hi = false) (r : Rais C v H E) : Ck C v e lo hi H E G := ⟨f, (fun (y : within e lo hi = true) => by
  rw [n] at y
  cases y), fun _ => r⟩
def spPages (C : Addr) : Sp := fun vs H Q E => ∃ (v : V) (d : PyData), vs = [v] ∧ Ck C v d 1 6 H E (Q .non H)
def spPage (C : Addr) : Sp := fun vs H Q E => ∃ (n : Int) (v : V) (d : PyData), vs = [.int n, v] ∧ Ck C v d 0 (n - 1) H E (Q .non H)
theorem scCkPages : FnScope ["pages"] ["pages"] (defScope sCkPages) := ⟨rfl, rfl, rfl, by decide +kernel, rfl, by decide +kernel, by decide +kernel⟩
theorem ok_ckpages {f : Addr} {fd : FuncData} (F : Fun K "_check_pages" "_check_pages" sCkPages f fd) (T : Cst mg) (M : Mak P w K mg base "NoCount" C) (D1 : Df P w K mg base 2 "is_within" ["value", "least", "most"] spW) : FnOk P w K mg base (L2.CX P w) 3 f fd ["pages"] (spPages C) := by
  obtain ⟨e1, fd1, G1, m1, k1, b1⟩ := D1.ex
  obtain ⟨fI, fdI, TE, GI, bI⟩ := M.ex
  obtain ⟨t2, hp⟩ := T.pages
  refine F.okX scCkPages (fun vs H Q E h => ?_) (fun cdv A outer s H vs Q E hr h => ?_)
  · obtain ⟨v, d, rfl, _⟩ := h
    rfl
  · obtain ⟨v, d, rfl, hd, q1, q2⟩ := h
    refine ⟨_, pss_one (ps_if (pt_not (pt_val (pe_call G1 hr (by rfl) m1 k1 b1 .nil pass0 (pa_cons (pv 0) (pa_cons pe_int (pa_cons (pe_glob (v := .int 6) (by rfl) hp ⟨_, rfl⟩) pa_nil))))))
      (pss_one (ps_raise rfl (takes_of rfl rfl rfl rfl) (pmk_oex TE.ox TE.iC TE.tI GI (hr.mono (by decide)) bI .nil pass0 (by rfl) TE.gC (pa_cons (pv 0) pa_nil)))) pss_nil), ?_⟩
    refine ⟨v, rfl, v, d, 1, 6, rfl, hd, ⟨_, rfl, ?_⟩⟩
    refine ite2 (fun e => raised_v TE.ox TE.no rfl (q2 (by simpa using e))) fun e => q1 (by simpa using e)
theorem scCkPage : FnScope ["pages", "page"] ["pages", "page"] (defScope sCkPage) := ⟨rfl, rfl, rfl, by decide +kernel, rfl, by decide +kernel, by decide +kernel⟩
theorem ok_ckpage {f : Addr} {fd : FuncData} (F : Fun K "check_page" "check_page" sCkPage f fd) (T : Cst mg) (M : Mak P w K mg base "NoPage" C) (D1 : Df P w K mg base 2 "is_within" ["value", "least", "most"] spW) : FnOk P w K mg base (L2.CX P w) 3 f fd ["pages", "page"] (spPage C) := by
  obtain ⟨e1, fd1, G1, m1, k1, b1⟩ := D1.ex
  obtain ⟨fI, fdI, TE, GI, bI⟩ := M.ex
  refine F.okX scCkPage (fun vs H Q E h => ?_) (fun cdv A outer s H vs Q E hr h => ?_)
  · obtain ⟨n, v, d, rfl, _⟩ := h
    rfl
  · obtain ⟨n, v, d, rfl, hd, q1, q2⟩ := h
    refine ⟨_, pss_one (ps_if (pt_not (pt_val (pe_call G1 hr (by rfl) m1 k1 b1 .nil pass0 (pa_cons (pv 1) (pa_cons pe_int (pa_cons (pe_op op_sub (pv 0) pe_int) pa_nil))))))
      (pss_one (ps_raise rfl (takes_of rfl rfl rfl rfl) (pmk_oex TE.ox TE.iC TE.tI GI (hr.mono (by decide)) bI .nil pass0 (by rfl) TE.gC (pa_cons (pv 1) pa_nil)))) pss_nil), ?_⟩
    refine ⟨v, rfl, _, rfl, _, _, rfl, rfl, v, d, 0, n - 1, rfl, hd, ⟨_, rfl, ?_⟩⟩
    refine ite2 (fun e => raised_v TE.ox TE.no rfl (q2 (by simpa using e))) fun e => q1 (by simpa using e)
/-- a rule: a text, or nothing of the kind -/
inductive Rl (K : PySem.W.Frag) (H : Hp) : V → Option Str → Prop
  | str (x : Str) : Rl K H (.str x) (some x)
  | no {v : V} {kd : String} (t : TyX K H v (.type kd)) (n : PySem.W.kitOne K (.type kd) (.type "str") = some false) : Rl K H v none
def rulesV : List V := [.str "barred", .str "free", .str "left"]
def okRule : Option Str → Bool
  | some x => inV (.str x) rulesV
  | none => false
def CkR (K : PySem.W.Frag) (C : Addr) (v : V) (o : Option Str) (H : Hp) (E : XK) (G : Prop) : Prop := Rl K H v o ∧ (okRule o = true → G) ∧ (okRule o = false → Rais C v H E)
def spRule (K : PySem.W.Frag) (C : Addr) : Sp := fun vs H Q E => ∃ (v : V) (o : Option Str), vs = [v] ∧ CkR K C v o H E (Q .non H)
theorem scCkRule : FnScope ["rule"] ["rule"] (defScope sCkRule) := ⟨rfl, rfl, rfl, by decide +kernel, rfl, by decide +kernel, by decide +kernel⟩
theorem ok_ckrule {f aR : Addr} {fd : FuncData} (F : Fun K "check_rule" "check_rule" sCkRule f fd) (T : Cst mg) (hR : mg "RULES" = some (.ref aR)) (sR : ∀ H : Hp, SqT K H aR rulesV) (M : Mak P w K mg base "NoWay" C) : FnOk P w K mg base (L2.CX P w) 3 f fd ["rule"] (spRule K C) := by
  obtain ⟨fI, fdI, TE, GI, bI⟩ := M.ex
  refine F.okX scCkRule (fun vs H Q E h => ?_) (fun cdv A outer s H vs Q E hr h => ?_)
  · obtain ⟨v, o, rfl, _⟩ := h
    rfl
  · obtain ⟨v, o, rfl, hd, q1, q2⟩ := h
    refine ⟨_, pss_one (ps_if (PW.pt (pw_or (pt_not (pt_val (pe_callB call_isi (by rfl) T.isi (by decide +kernel) (pa_cons (pv 0) (pa_cons (pe_bltn (v := .ty "str") (by rfl) T.tstr (by decide +kernel) rfl) pa_nil))))) (pw_or1 (pt_cmpR op_notIn_seq (pv 0) (pe_glob (v := .ref aR) (by rfl) hR rfl) (by rfl)))))
      (pss_one (ps_raise rfl (takes_of rfl rfl rfl rfl) (pmk_oex TE.ox TE.iC TE.tI GI (hr.mono (by decide)) bI .nil pass0 (by rfl) TE.gC (pa_cons (pv 0) pa_nil)))) pss_nil), ?_⟩
    cases hd with
    | str x =>
      refine ⟨_, rfl, .str x, _, _, _, _, rfl, .ty _, .base (.str x), kit_ty (show kitB "str" "str" = some true from by decide +kernel), _, rfl, iteF ?_⟩
      refine ⟨_, rfl, aR, rulesV, rfl, .inr (sR H), rfl, by decide, _, rfl, ?_⟩
      have e0 : (!inV (.str x) rulesV) = !okRule (some x) := rfl
      refine ite2 (fun e => raised_v TE.ox TE.no rfl (q2 (by simpa using e0.symm.trans e))) fun e => q1 ?_
      have e2 := e0.symm.trans (Bool.eq_false_iff.mpr e)
      simpa using e2
    | @no _ kd t n =>
      exact ⟨_, rfl, v, _, _, _, _, rfl, .ty _, t, n, _, rfl, iteT (raised_v TE.ox TE.no rfl (q2 rfl))⟩
/-- pages, rule, begin, page: checked one behind another -/
def Cw (K : PySem.W.Frag) (CN CW CP : Addr) (v1 v2 v3 v4 : V) (H : Hp) (E : XK) (G : Int → Str → Int → Int → Prop) : Prop :=
  ∃ d1, Ck CN v1 d1 1 6 H E (∀ n, v1 = .int n → 1 ≤ n → n ≤ 6 → ∃ o, CkR K CW v2 o H E (∀ x, v2 = .str x → okRule (some x) = true → ∃ d3, Ck CP v3 d3 0 (n - 1) H E (∀ b, v3 = .int b → 0 ≤ b → b ≤ n - 1 → ∃ d4, Ck CP v4 d4 0 (n - 1) H E (∀ s, v4 = .int s → 0 ≤ s → s ≤ n - 1 → G n x b s))))
abbrev psW : List Str := ["pages", "rule", "begin", "page"]
def spWalk (K : PySem.W.Frag) (CN CW CP : Addr) : Sp := fun vs H Q E => ∃ v1 v2 v3 v4, vs = [v1, v2, v3, v4] ∧ Cw K CN CW CP v1 v2 v3 v4 H E fun _ _ _ _ => Q .non H
theorem scCkWalk : FnScope psW psW (defScope sCkWalk) := ⟨rfl, rfl, rfl, by decide +kernel, rfl, by decide +kernel, by decide +kernel⟩
theorem rl_str {H : Hp} {v : V} {o : Option Str} (r : Rl K H v o) (h : okRule o = true) : ∃ x, v = .str x ∧ o = some x := by
  cases r with
  | str x => exact ⟨x, rfl, rfl⟩
  | no t n => cases h
theorem ok_ckwalk {f : Addr} {fd : FuncData} (F : Fun K "_check_walk" "_check_walk" sCkWalk f fd) (D1 : DfX P w K mg base 3 "_check_pages" ["pages"] (spPages C)) (D2 : DfX P w K mg base 3 "check_rule" ["rule"] (spRule K C2)) (D3 : DfX P w K mg base 3 "check_page" ["pages", "page"] (spPage C3)) :
    FnOk P w K mg base (L2.CX P w) 4 f fd psW (spWalk K C C2 C3) := by
  obtain ⟨e1, fd1, G1, m1, k1, b1⟩ := D1.ex
  obtain ⟨e2, fd2, G2, m2, k2, b2⟩ := D2.ex
  obtain ⟨e3, fd3, G3, m3, k3, b3⟩ := D3.ex
  refine F.okX scCkWalk (fun vs H Q E h => ?_) (fun cdv A outer s H vs Q E hr h => ?_)
  · obtain ⟨v1, v2, v3, v4, rfl, _⟩ := h
    rfl
  · obtain ⟨v1, v2, v3, v4, rfl, d1, f1, q1, r1⟩ := h
    refine ⟨_, pss_cons (ps_expr (pe_call (E := E) G1 hr (by rfl) m1 k1 b1 .nil (passes_call (takes_of rfl rfl rfl rfl) fun _ _ _ _ h => h) (pa_cons (pv 0) pa_nil)))
      (pss_cons (ps_expr (pe_call (E := E) G2 hr (by rfl) m2 k2 b2 .nil (passes_call (takes_of rfl rfl rfl rfl) fun _ _ _ _ h => h) (pa_cons (pv 1) pa_nil)))
      (pss_cons (ps_expr (pe_call (E := E) G3 hr (by rfl) m3 k3 b3 .nil (passes_call (takes_of rfl rfl rfl rfl) fun _ _ _ _ h => h) (pa_cons (pv 0) (pa_cons (pv 2) pa_nil))))
      (pss_one (ps_expr (pe_call (E := E) G3 hr (by rfl) m3 k3 b3 .nil (passes_call (takes_of rfl rfl rfl rfl) fun _ _ _ _ h => h) (pa_cons (pv 0) (pa_cons (pv 3) pa_nil))))))), ?_⟩
    refine ⟨v1, rfl, v1, d1, rfl, f1, fun i1 => ?_, r1⟩
    obtain ⟨n, rfl, _, c0, c1⟩ := within_inv f1 i1
    obtain ⟨o, f2, q2, r2⟩ := q1 i1 n rfl c0 c1
    refine ⟨v2, rfl, v2, o, rfl, f2, fun i2 => ?_, r2⟩
    obtain ⟨x, rfl, rfl⟩ := rl_str f2 i2
    obtain ⟨d3, f3, q3, r3⟩ := q2 i2 x rfl i2
    refine ⟨_, rfl, v3, rfl, n, v3, d3, rfl, f3, fun i3 => ?_, r3⟩
    obtain ⟨b, rfl, _, c0, c1⟩ := within_inv f3 i3
    obtain ⟨d4, f4, q4, r4⟩ := q3 i3 b rfl c0 c1
    refine ⟨_, rfl, v4, rfl, n, v4, d4, rfl, f4, fun i4 => ?_, r4⟩
    obtain ⟨s, rfl, _, c0, c1⟩ := within_inv f4 i4
    exact q4 i4 s rfl c0 c1
end
end Pl

namespace Pl
open L2 PySem PySem.Spec PyProof.Rows
/-! ### moves -/
inductive Mo
  | bad
  | pr (a b : PyData)
inductive Mv (K : PySem.W.Frag) (H : Hp) : V → Mo → Prop
  | flat {v : V} {d : PyData} (f : Fl v d) : Mv K H v .bad
  | lst {a : Addr} {xs : List V} (h : H a = some (.lst xs)) : Mv K H (.ref a) .bad
  | len {a : Addr} {xs : List V} (h : H a = some (.tup xs)) (n : xs.length ≠ 2) : Mv K H (.ref a) .bad
  | pr {a : Addr} {x y : V} {d e : PyData} (h : H a = some (.tup [x, y])) (fx : Fl x d) (fy : Fl y e) : Mv K H (.ref a) (.pr d e)
inductive MvL (K : PySem.W.Frag) (H : Hp) : List V → List Mo → Prop
  | nil : MvL K H [] []
  | cons {v : V} {m : Mo} {vs : List V} {ms : List Mo} (a : Mv K H v m) (t : MvL K H vs ms) : MvL K H (v :: vs) (m :: ms)
theorem Mv.same {K : PySem.W.Frag} {H G : Hp} {v : V} {m : Mo} (h : Mv K H v m) (s : Same H G) : Mv K G v m := by
  cases h with
  | flat f => exact .flat f
  | lst h => exact .lst (s _ _ h)
  | len h n => exact .len (s _ _ h) n
  | pr h fx fy => exact .pr (s _ _ h) fx fy
theorem MvL.same {K : PySem.W.Frag} {H G : Hp} (s : Same H G) : ∀ {vs : List V} {ms : List Mo}, MvL K H vs ms → MvL K G vs ms
  | _, _, .nil => .nil
  | _, _, .cons a t => .cons (a.same s) (t.same s)
theorem MvL.len {K : PySem.W.Frag} {H : Hp} : ∀ {vs : List V} {ms : List Mo}, MvL K H vs ms → vs.length = ms.length
  | _, _, .nil => rfl
  | _, _, .cons _ t => congrArg Nat.succ t.len
theorem MvL.at {K : PySem.W.Frag} {H : Hp} : ∀ {vs : List V} {ms : List Mo} {i : Nat} {v : V}, MvL K H vs ms → vs[i]? = some v → ∃ m, ms[i]? = some m ∧ Mv K H v m
  | _, _, _, _, .nil, e => absurd e (by simp)
  | _, _, 0, _, .cons a _, e => by simp at e; subst e; exact ⟨_, rfl, a⟩
  | _, _, i + 1, _, .cons _ t, e => by
    obtain ⟨m, h1, h2⟩ := MvL.at (i := i) t (by simpa using e)
    exact ⟨m, by simpa using h1, h2⟩
theorem MvL.app {K : PySem.W.Frag} {H : Hp} : ∀ {vs ws : List V} {ms ns : List Mo}, MvL K H vs ms → MvL K H ws ns → MvL K H (vs ++ ws) (ms ++ ns)
  | _, _, _, _, .nil, h => h
  | _, _, _, _, .cons a t, h => .cons a (t.app h)
/-- what is handed in as moves -/
inductive Mvs (K : PySem.W.Frag) (H : Hp) : V → Option (List Mo) → Prop
  | no {v : V} {kd : String} (t : ∀ G, Same H G → TyX K G v (.type kd)) (nl : PySem.W.kitOne K (.type kd) (.type "list") = some false) (nt : PySem.W.kitOne K (.type kd) (.type "tuple") = some false) : Mvs K H v none
  | lst {a : Addr} {vs : List V} {ms : List Mo} (h : H a = some (.lst vs)) (m : MvL K H vs ms) (l : vs.length ≤ 100) : Mvs K H (.ref a) (some ms)
  | tup {a : Addr} {vs : List V} {ms : List Mo} (h : H a = some (.tup vs)) (m : MvL K H vs ms) (l : vs.length ≤ 100) : Mvs K H (.ref a) (some ms)
def num : PyData → Int
  | .int i => i
  | _ => 0
def isBar (n b done own other : Int) : Bool := decide ((other - b) % n < done) && decide (done ≤ (own - b) % n)
def wrong (n : Int) (x : Str) (b last own : Int) : Mo → Bool
  | .bad => true
  | .pr d e => !(within d last (n - 2)) || (!(within e 0 (n - 1)) || decide (num e = own)) || (decide (x = "barred") && isBar n b (num d + 1) own (num e))
def nxL (last : Int) : Mo → Int
  | .bad => last
  | .pr d _ => num d
def nxO (own : Int) : Mo → Int
  | .bad => own
  | .pr _ e => num e
/-- the index of the first move that is wrong -/
def firstW (n : Int) (x : Str) (b : Int) : Int → Int → List Mo → Nat → Option Nat
  | _, _, [], _ => none
  | last, own, m :: ms, i => if wrong n x b last own m = true then some i else firstW n x b (nxL last m) (nxO own m) ms (i + 1)
def optV : Option Nat → V
  | none => .non
  | some i => .int (i : Nat)
def spBar : Sp := fun vs H Q _ => ∃ (n b done own other : Int), vs = [.int n, .int b, .int done, .int own, .int other] ∧ 0 < n ∧ Q (.bl (isBar n b done own other)) H
abbrev psF : List Str := ["pages", "rule", "begin", "page", "moves"]
def spFirst (K : PySem.W.Frag) : Sp := fun vs H Q _ => ∃ (n b s : Int) (x : Str) (m : V) (ms : List Mo), vs = [.int n, .str x, .int b, .int s, m] ∧ 1 ≤ n ∧ n ≤ 6 ∧ Mvs K H m (some ms) ∧ ∀ H', Same H H' → Q (optV (firstW n x b 0 s ms 0)) H'
section
variable {P : Program} {K : PySem.W.Frag} {w : World} {base : Heap} {mg : Str → Option Value} {C C2 C3 : Addr}
theorem scBarred : FnScope ["pages", "begin", "done", "own", "other"] ["pages", "begin", "done", "own", "other"] (defScope sBarred) := ⟨rfl, rfl, rfl, by decide +kernel, rfl, by decide +kernel, by decide +kernel⟩
theorem ok_barred {f : Addr} {fd : FuncData} (F : Fun K "is_barred" "is_barred" sBarred f fd) : FnOk P w K mg base CX0 1 f fd ["pages", "begin", "done", "own", "other"] spBar := by
  refine F.ok scBarred (fun vs H Q E h => ?_) (fun cdv A outer s H vs Q E hr h => ?_)
  · obtain ⟨n, b, done, own, other, rfl, _⟩ := h
    rfl
  · obtain ⟨n, b, done, own, other, rfl, hn, q⟩ := h
    refine ⟨_, pss_one (ps_ret (pe_chain op_lt op_le (pe_op op_mod (pe_op op_sub (pv 4) (pv 1)) (pv 0)) (pv 2) (pe_op op_mod (pe_op op_sub (pv 3) (pv 1)) (pv 0)))), ?_⟩
    refine ⟨_, rfl, _, rfl, _, _, rfl, rfl, _, rfl, _, _, rfl, rfl, hn, _, rfl, _, _, rfl, rfl, _, rfl, ?_⟩
    have q2 : Q (.bl (decide ((other - b) % n < done) && decide (done ≤ (own - b) % n))) H := q
    refine ite2 (fun e => ?_) fun e => ?_
    · rw [show decide ((other - b) % n < done) = true from e, Bool.true_and] at q2
      exact ⟨_, rfl, _, rfl, _, _, rfl, rfl, _, rfl, _, _, rfl, rfl, hn, _, _, rfl, rfl, q2⟩
    · rw [show decide ((other - b) % n < done) = false from Bool.eq_false_iff.mpr e, Bool.false_and] at q2
      exact q2
theorem intV_eq (a b : Int) : decide (V.int a = V.int b) = decide (a = b) := by
  by_cases h : a = b
  · subst h
    simp
  · simp [h]
theorem strV_eq (a b : Str) : decide (V.str a = V.str b) = decide (a = b) := by
  by_cases h : a = b
  · subst h
    simp
  · simp [h]
theorem kit_tupF {v : V} {d : PyData} (h : Fl v d) : PySem.W.kitOne K (.type (kindOf d)) (.type "tuple") = some false := by
  cases h with
  | non => exact kit_ty (show kitB "NoneType" "tuple" = some false from by decide +kernel)
  | bl b => exact kit_ty (show kitB "bool" "tuple" = some false from by decide +kernel)
  | int i => exact kit_ty (show kitB "int" "tuple" = some false from by decide +kernel)
  | str x => exact kit_ty (show kitB "str" "tuple" = some false from by decide +kernel)
theorem scFirst : FnScope ["pages", "rule", "begin", "page", "moves", "last", "own", "index", "move", "visit", "other"] psF (defScope sFirst) := ⟨rfl, rfl, rfl, by decide +kernel, rfl, by decide +kernel, by decide +kernel⟩
theorem firstW_drop {n : Int} {x : Str} {b last own : Int} {ms : List Mo} {i : Nat} {m : Mo} (h : ms[i]? = some m) : firstW n x b last own (ms.drop i) i = if wrong n x b last own m = true then some i else firstW n x b (nxL last m) (nxO own m) (ms.drop (i + 1)) (i + 1) := by
  have e : ms.drop i = m :: ms.drop (i + 1) := by
    obtain ⟨lt, rfl⟩ := List.getElem?_eq_some_iff.mp h
    exact List.drop_eq_getElem_cons lt
  rw [e]
  rfl
theorem ok_first {f : Addr} {fd : FuncData} (F : Fun K "_first_wrong" "_first_wrong" sFirst f fd) (T : Cst mg) (DW : Df P w K mg base 2 "is_within" ["value", "least", "most"] spW) (DB : Df P w K mg base 1 "is_barred" ["pages", "begin", "done", "own", "other"] spBar) : FnOk P w K mg base CX0 3 f fd psF (spFirst K) := by
  obtain ⟨gW, fdW, GW, mW, kW, bW⟩ := DW.ex
  obtain ⟨gB, fdB, GB, mB, kB, bB⟩ := DB.ex
  refine F.ok scFirst (fun vs H Q E h => ?_) (fun cdv A outer s H vs Q E hr h => ?_)
  · obtain ⟨n, b, s, x, m, ms, rfl, _⟩ := h
    rfl
  · obtain ⟨n, b, s, x, m, ms, rfl, n1, n6, hm, q⟩ := h
    have body : ∃ tb, PSs (cxOf CX0 P w K mg base ["pages", "rule", "begin", "page", "moves", "last", "own", "index", "move", "visit", "other"] "_first_wrong" (defScope sFirst) f cdv A outer ‹Shared› H E).nox (match defBody sFirst with
        | [_, _, .For _ _ b _ _, _] => b
        | _ => []) tb ∧
        ∀ (D : Ends) (G : Hp) (last own : Int) (i : Nat) (y : V) (mm : Mo) (x9 x10 : Option V), Mv K G y mm → (wrong n x b last own mm = true → ∀ G', Same G G' → D.rt (.int (i : Nat)) G') →
          (wrong n x b last own mm = false → ∀ G' y9 y10, Same G G' → D.nx [some (.int n), some (.str x), some (.int b), some (.int s), some m, some (.int (nxL last mm)), some (.int (nxO own mm)), some (.int (i : Nat)), some y, y9, y10] G') →
          tb D [some (.int n), some (.str x), some (.int b), some (.int s), some m, some (.int last), some (.int own), some (.int (i : Nat)), some y, x9, x10] G := by
      refine ⟨_, pss_cons (ps_if (PW.pt (pw_or (pt_not (pt_val (pe_callB call_isi (by rfl) T.isi (by decide +kernel) (pa_cons (pv 8) (pa_cons (pe_bltn (v := .ty "tuple") (by rfl) T.ttup (by decide +kernel) rfl) pa_nil))))) (pw_or1 (pt_cmpR op_ne (pe_callB call_len_seq (by rfl) T.len PySem.boot_len (pa_cons (pv 8) pa_nil)) pe_int (nomark _))))) (pss_one (ps_ret (pv 7))) pss_nil)
        (pss_cons (ps_asg (pv 8) (pg_tup rfl (pgs_cons (pg_name (i := 9) scFirst.nd rfl (Or.inl rfl)) (pgs_cons (pg_name (i := 10) scFirst.nd rfl (Or.inl rfl)) pgs_nil))))
        (pss_cons (ps_if (PW.pt (pw_or (pt_not (pt_val (pe_call GW hr (by rfl) mW kW bW .nil pass0 (pa_cons (pv 9) (pa_cons (pv 5) (pa_cons (pe_op op_sub (pv 0) pe_int) pa_nil)))))) (pw_or (pt_not (pt_val (pe_call GW hr (by rfl) mW kW bW .nil pass0 (pa_cons (pv 10) (pa_cons pe_int (pa_cons (pe_op op_sub (pv 0) pe_int) pa_nil)))))) (pw_or1 (pt_cmpR op_eq (pv 10) (pv 6) (nomark _)))))) (pss_one (ps_ret (pv 7))) pss_nil)
        (pss_cons (ps_if (PW.pt (pw_and (pt_cmpR op_eq (pv 1) pe_str (nomark _)) (pw_and1 (pt_val (pe_call GB (hr.mono (by decide)) (by rfl) mB kB bB .nil pass0 (pa_cons (pv 0) (pa_cons (pv 2) (pa_cons (pe_op op_add (pv 9) pe_int) (pa_cons (pv 6) (pa_cons (pv 10) pa_nil)))))))))) (pss_one (ps_ret (pv 7))) pss_nil)
        (pss_one (ps_par (i := 5) (j := 6) (by rfl) scFirst.nd rfl rfl (by decide) rfl rfl (pa_cons (pv 9) (pa_cons (pv 10) pa_nil)) (by rfl)))))), ?_⟩
      intro D G last own i y mm x9 x10 hy bad ok
      cases hy with
      | flat f => exact ⟨_, rfl, y, _, _, _, _, rfl, .ty _, f.ty, kit_tupF f, _, rfl, iteT ⟨_, rfl, bad rfl G (Same.refl _)⟩⟩
      | lst h => exact ⟨_, rfl, _, _, _, _, _, rfl, .ty _, .base (.lst h), kit_ty (show kitB "list" "tuple" = some false from by decide +kernel), _, rfl, iteT ⟨_, rfl, bad rfl G (Same.refl _)⟩⟩
      | @len a xs h nl =>
        refine ⟨_, rfl, _, _, _, _, _, rfl, .ty _, .base (.tup h), kit_ty (show kitB "tuple" "tuple" = some true from by decide +kernel), _, rfl, iteF ?_⟩
        refine ⟨_, rfl, a, _, rfl, .inr (SqT.of h), rfl, _, rfl, ?_⟩
        have e : (!decide (V.int ((xs.length : Nat) : Int) = V.int 2)) = true := by
          rw [intV_eq, decide_eq_false (by omega)]
          rfl
        rw [e]
        exact iteT ⟨_, rfl, bad rfl G (Same.refl _)⟩
      | @pr a vx vy d e h fx fy =>
        refine ⟨_, rfl, _, _, _, _, _, rfl, .ty _, .base (.tup h), kit_ty (show kitB "tuple" "tuple" = some true from by decide +kernel), _, rfl, iteF ?_⟩
        refine ⟨_, rfl, a, _, rfl, .inr (SqT.of h), rfl, _, rfl, ?_⟩
        rw [decide_eq_true (show V.int (([vx, vy].length : Nat) : Int) = V.int 2 from rfl)]
        refine iteF ?_
        refine ⟨_, rfl, a, _, rfl, SqT.of h, rfl, _, _, rfl, _, _, rfl, rfl, ?_⟩
        refine ⟨_, rfl, _, rfl, _, rfl, _, _, rfl, rfl, vx, d, last, n - 2, rfl, fx, _, rfl, ?_⟩
        cases e1 : within d last (n - 2) with
        | false => exact iteT ⟨_, rfl, bad (by simp [wrong, e1]) G (Same.refl _)⟩
        | true =>
        refine iteF ?_
        refine ⟨_, rfl, _, rfl, _, _, rfl, rfl, vy, e, 0, n - 1, rfl, fy, _, rfl, ?_⟩
        cases e2 : within e 0 (n - 1) with
        | false => exact iteT ⟨_, rfl, bad (by simp [wrong, e1, e2]) G (Same.refl _)⟩
        | true =>
        refine iteF ?_
        obtain ⟨i1, rfl, rfl, _, _⟩ := within_inv fx e1
        obtain ⟨i2, rfl, rfl, _, _⟩ := within_inv fy e2
        refine ⟨_, rfl, _, rfl, rfl, _, rfl, ?_⟩; skip
        rw [intV_eq]
        by_cases e3 : i2 = own
        · rw [decide_eq_true e3]
          exact iteT ⟨_, rfl, bad (by simp [wrong, num, e3]) G (Same.refl _)⟩
        rw [decide_eq_false e3]
        refine iteF ?_
        refine ⟨_, rfl, rfl, _, rfl, ?_⟩; skip
        rw [strV_eq]
        have fin : ∀ y9 y10 : Option V, (decide (x = "barred") && isBar n b (i1 + 1) own i2) = false → D.nx [some (.int n), some (.str x), some (.int b), some (.int s), some m, some (.int i1), some (.int i2), some (.int (i : Nat)), some (.ref a), y9, y10] G := fun y9 y10 e => ok (by
          show (!(within (.int i1) last (n - 2)) || (!(within (.int i2) 0 (n - 1)) || decide (i2 = own)) || (decide (x = "barred") && isBar n b (i1 + 1) own i2)) = false
          rw [e1, e2, e, decide_eq_false e3]
          rfl) G y9 y10 (Same.refl _)
        by_cases e4 : x = "barred"
        · rw [decide_eq_true e4]
          refine iteT ?_
          refine ⟨_, rfl, _, rfl, _, rfl, _, _, rfl, rfl, _, rfl, _, rfl, n, b, i1 + 1, own, i2, rfl, by omega, _, rfl, ?_⟩
          cases e5 : isBar n b (i1 + 1) own i2 with
          | true => exact iteT ⟨_, rfl, bad (by
              show (_ || (decide (x = "barred") && isBar n b (i1 + 1) own i2)) = true
              rw [e5, decide_eq_true e4, Bool.and_self, Bool.or_true]) G (Same.refl _)⟩
          | false => exact iteF ⟨_, rfl, _, rfl, _, _, rfl, fin _ _ (by rw [e5, Bool.and_false])⟩
        · rw [decide_eq_false e4]
          exact iteF ⟨_, rfl, _, rfl, _, _, rfl, fin _ _ (by rw [decide_eq_false e4, Bool.false_and])⟩
    obtain ⟨tb, hb, rd⟩ := body
    cases hm with
    | @lst a vs ms hl hv l =>
      refine ⟨_, pss_cons (ps_set (i := 5) scFirst.nd rfl (Or.inl rfl) pe_int) (pss_cons (ps_set (i := 6) scFirst.nd rfl (Or.inl rfl) (pv 3)) (pss_cons (ps_for PassesOwn.never rfl (pi_enum (by rfl) T.enum (pa_cons (pv 4) pa_nil))
        (pg_tup rfl (pgs_cons (pg_name (i := 7) scFirst.nd rfl (Or.inl rfl)) (pgs_cons (pg_name (i := 8) scFirst.nd rfl (Or.inl rfl)) pgs_nil))) hb) (pss_one (ps_ret pe_non)))), ?_⟩
      refine ⟨_, rfl, _, rfl, a, vs, rfl, SqL.of hl, for_it (walk_enum (K := K) (a := a) (xs := vs)) (fun i σ G => ∃ last own x7 x8 x9 x10, σ = [some (.int n), some (.str x), some (.int b), some (.int s), some (.ref a), some (.int last), some (.int own), x7, x8, x9, x10] ∧ Same H G ∧ firstW n x b 0 s ms 0 = firstW n x b last own (ms.drop i) i)
        ⟨0, s, _, _, _, _, rfl, Same.refl _, rfl⟩ (fun i σ G _ h => by
          obtain ⟨_, _, _, _, _, _, _, s1, _⟩ := h
          exact SqL.of (s1 _ _ hl)) ?_ ?_⟩
      · rintro i y σ G G' hi ⟨last, own, x7, x8, x9, x10, rfl, s1, e1⟩ ⟨T0, u, v, rfl, nT, rfl, hu, hvv⟩
        cases hu
        obtain ⟨mm, hmm, hMv⟩ := hv.at hvv
        have s2 : Same G (upd G T0 (.tup [.int (i : Nat), v])) := same_new nT
        refine ⟨T0, _, rfl, SqT.of upd_same, rfl, _, _, rfl, _, _, rfl, rfl, ?_⟩
        rw [firstW_drop hmm] at e1
        refine rd _ _ last own i v mm _ _ ((hMv.same s1).same s2) (fun ew G3 s3 => ?_) (fun ew G3 y9 y10 s3 => ?_)
        · rw [if_pos ew] at e1
          have := q G3 ((s1.trans s2).trans s3)
          rw [e1] at this
          exact this
        · rw [if_neg (by rw [ew]; decide)] at e1
          exact ⟨_, _, _, _, _, _, rfl, (s1.trans s2).trans s3, e1⟩
      · rintro σ G ⟨last, own, x7, x8, x9, x10, rfl, s1, e1⟩
        rw [hv.len, List.drop_length] at e1
        have := q G s1
        rw [e1] at this
        exact this
    | @tup a vs ms hl hv l =>
      refine ⟨_, pss_cons (ps_set (i := 5) scFirst.nd rfl (Or.inl rfl) pe_int) (pss_cons (ps_set (i := 6) scFirst.nd rfl (Or.inl rfl) (pv 3)) (pss_cons (ps_for PassesOwn.never rfl (pi_enumT (by rfl) T.enum (pa_cons (pv 4) pa_nil))
        (pg_tup rfl (pgs_cons (pg_name (i := 7) scFirst.nd rfl (Or.inl rfl)) (pgs_cons (pg_name (i := 8) scFirst.nd rfl (Or.inl rfl)) pgs_nil))) hb) (pss_one (ps_ret pe_non)))), ?_⟩
      refine ⟨_, rfl, _, rfl, a, vs, rfl, SqT.of hl, for_it (walk_enumT (K := K) (a := a) (xs := vs)) (fun i σ G => ∃ last own x7 x8 x9 x10, σ = [some (.int n), some (.str x), some (.int b), some (.int s), some (.ref a), some (.int last), some (.int own), x7, x8, x9, x10] ∧ Same H G ∧ firstW n x b 0 s ms 0 = firstW n x b last own (ms.drop i) i)
        ⟨0, s, _, _, _, _, rfl, Same.refl _, rfl⟩ (fun i σ G _ h => by
          obtain ⟨_, _, _, _, _, _, _, s1, _⟩ := h
          exact SqT.of (s1 _ _ hl)) ?_ ?_⟩
      · rintro i y σ G G' hi ⟨last, own, x7, x8, x9, x10, rfl, s1, e1⟩ ⟨T0, u, v, rfl, nT, rfl, hu, hvv⟩
        cases hu
        obtain ⟨mm, hmm, hMv⟩ := hv.at hvv
        have s2 : Same G (upd G T0 (.tup [.int (i : Nat), v])) := same_new nT
        refine ⟨T0, _, rfl, SqT.of upd_same, rfl, _, _, rfl, _, _, rfl, rfl, ?_⟩
        rw [firstW_drop hmm] at e1
        refine rd _ _ last own i v mm _ _ ((hMv.same s1).same s2) (fun ew G3 s3 => ?_) (fun ew G3 y9 y10 s3 => ?_)
        · rw [if_pos ew] at e1
          have := q G3 ((s1.trans s2).trans s3)
          rw [e1] at this
          exact this
        · rw [if_neg (by rw [ew]; decide)] at e1
          exact ⟨_, _, _, _, _, _, rfl, (s1.trans s2).trans s3, e1⟩
      · rintro σ G ⟨last, own, x7, x8, x9, x10, rfl, s1, e1⟩
        rw [hv.len, List.drop_length] at e1
        have := q G s1
        rw [e1] at this
        exact this
end
end Pl

namespace Pl
open L2 PySem PySem.Spec PyProof.Rows
/-! ### where a record lies, and when it is seen -/
def lay (s : Int) (ps : List (Int × Int)) : Nat → List Int
  | 0 => [s]
  | k + 1 => lay s ps k ++ (ps.filter fun p => decide (p.1 = (k : Int))).map fun p => p.2
def lastI (l : List Int) : Int := l.getLastD 0
def metB (n : Int) (x : Str) (b s : Int) (ps : List (Int × Int)) (k : Nat) : Bool := decide ((b + k) % n = lastI (lay s ps k)) || (decide (x = "left") && decide ((b + k) % n ∈ lay s ps k))
def countM (n : Int) (x : Str) (b s : Int) (ps : List (Int × Int)) : Nat → Nat
  | 0 => 0
  | k + 1 => countM n x b s ps k + (if metB n x b s ps k = true then 1 else 0)
theorem lay_len (s : Int) (ps : List (Int × Int)) : ∀ k, (lay s ps k).length ≤ 1 + k * ps.length
  | 0 => by simp [lay]
  | k + 1 => by
    have h1 := lay_len s ps k
    have h2 : (ps.filter fun p => decide (p.1 = (k : Int))).length ≤ ps.length := List.length_filter_le _ _
    have h3 : (k + 1) * ps.length = k * ps.length + ps.length := Nat.succ_mul _ _
    show (lay s ps k ++ (ps.filter fun p => decide (p.1 = (k : Int))).map fun p => p.2).length ≤ _
    rw [List.length_append, List.length_map]
    omega
theorem lastI_app (l : List Int) (y : Int) : lastI (l ++ [y]) = y := by
  unfold lastI
  rw [List.getLastD_eq_getLast?, List.getLast?_append]
  rfl
/-- pairs of ints -/
def PrA (H : Hp) (v : V) (p : Int × Int) : Prop := ∃ a, v = .ref a ∧ H a = some (.tup [.int p.1, .int p.2])
inductive PrL (H : Hp) : List V → List (Int × Int) → Prop
  | nil : PrL H [] []
  | cons {v : V} {p : Int × Int} {vs : List V} {ps : List (Int × Int)} (a : PrA H v p) (t : PrL H vs ps) : PrL H (v :: vs) (p :: ps)
theorem PrA.same {H G : Hp} {v : V} {p : Int × Int} (h : PrA H v p) (s : Same H G) : PrA G v p := by
  obtain ⟨a, e, ha⟩ := h
  exact ⟨a, e, s _ _ ha⟩
theorem PrL.same {H G : Hp} (s : Same H G) : ∀ {vs : List V} {ps : List (Int × Int)}, PrL H vs ps → PrL G vs ps
  | _, _, .nil => .nil
  | _, _, .cons a t => .cons (a.same s) (t.same s)
theorem PrL.len {H : Hp} : ∀ {vs : List V} {ps : List (Int × Int)}, PrL H vs ps → vs.length = ps.length
  | _, _, .nil => rfl
  | _, _, .cons _ t => congrArg Nat.succ t.len
theorem PrL.at {H : Hp} : ∀ {vs : List V} {ps : List (Int × Int)} {i : Nat} {v : V}, PrL H vs ps → vs[i]? = some v → ∃ p, ps[i]? = some p ∧ PrA H v p
  | _, _, _, _, .nil, e => absurd e (by simp)
  | _, _, 0, _, .cons a _, e => by simp at e; subst e; exact ⟨_, rfl, a⟩
  | _, _, i + 1, _, .cons _ t, e => by
    obtain ⟨m, h1, h2⟩ := PrL.at (i := i) t (by simpa using e)
    exact ⟨m, by simpa using h1, h2⟩
theorem PrL.app {H : Hp} : ∀ {vs ws : List V} {ps qs : List (Int × Int)}, PrL H vs ps → PrL H ws qs → PrL H (vs ++ ws) (ps ++ qs)
  | _, _, _, _, .nil, h => h
  | _, _, _, _, .cons a t, h => .cons a (t.app h)
theorem inV_ints (x : Int) : ∀ ys : List Int, inV (.int x) (ys.map V.int) = decide (x ∈ ys)
  | [] => by simp [inV]
  | y :: ys => by
    have ih := inV_ints x ys
    unfold inV at ih ⊢
    rw [List.map_cons, List.any_cons, ih]
    have e : eqV (V.int y) (V.int x) = decide (y = x) := by
      show (y == x) = decide (y = x)
      by_cases h : y = x <;> simp [h]
    rw [e]
    by_cases h : y = x
    · subst h
      simp
    · by_cases h2 : x ∈ ys
      · simp [h, h2]
      · have h3 : ¬ x = y := fun z => h z.symm
        simp [h, h2, h3]
theorem flat_ints (ys : List Int) : (ys.map V.int).all flatV = true := by
  rw [List.all_eq_true]
  intro v hv
  obtain ⟨y, _, rfl⟩ := List.mem_map.mp hv; skip
  rfl
theorem takeS {α : Type} {xs : List α} {i : Nat} {x : α} (h : xs[i]? = some x) : xs.take (i + 1) = xs.take i ++ [x] := by
  rw [List.take_add_one, h]
  rfl
theorem same_up {p : Addr} {H : Hp} {o : HO} (f : H p = none) : Same H (L2.upd H p o) := fun b u e => (upd_ne (ne_of_none e f)).trans e
def spSeen : Sp := fun vs H Q _ => ∃ (n b s : Int) (x : Str) (a : Addr) (us : List V) (ps : List (Int × Int)), vs = [.int n, .str x, .int b, .int s, .ref a] ∧ 1 ≤ n ∧ n ≤ 6 ∧ H a = some (.lst us) ∧ PrL H us ps ∧ us.length ≤ 100 ∧ ∀ H', Same H H' → Q (.int (countM n x b s ps n.toNat : Nat)) H'
def spDist (CN CP : Addr) : Sp := fun vs H Q E => ∃ v1 v2 v3, vs = [v1, v2, v3] ∧ ∃ d1, Ck CN v1 d1 1 6 H E (∀ n, v1 = .int n → 1 ≤ n → n ≤ 6 → ∃ d2, Ck CP v2 d2 0 (n - 1) H E (∀ b, v2 = .int b → 0 ≤ b → b ≤ n - 1 → ∃ d3, Ck CP v3 d3 0 (n - 1) H E (∀ p, v3 = .int p → 0 ≤ p → p ≤ n - 1 → Q (.int ((p - b) % n)) H)))
def letB (n : Int) (x : Str) (b s : Int) : Option (List Mo) → Bool
  | none => false
  | some ms => (firstW n x b 0 s ms 0).isNone
def spIsLet (K : PySem.W.Frag) (CN CW CP : Addr) : Sp := fun vs H Q E => ∃ v1 v2 v3 v4 v5, vs = [v1, v2, v3, v4, v5] ∧ Cw K CN CW CP v1 v2 v3 v4 H E fun n x b s => ∃ om, Mvs K H v5 om ∧ ∀ H', Same H H' → Q (.bl (letB n x b s om)) H'
def spSights (K : PySem.W.Frag) (CN CW CP CM : Addr) : Sp := fun vs H Q E => ∃ v1 v2 v3 v4 v5, vs = [v1, v2, v3, v4, v5] ∧ Cw K CN CW CP v1 v2 v3 v4 H E fun n x b s =>
  (Mvs K H v5 none ∧ Rais CM .non H E) ∨ ∃ ms, Mvs K H v5 (some ms) ∧ (∀ i, firstW n x b 0 s ms 0 = some i → Rais CM (.int (i : Nat)) H E) ∧
    (firstW n x b 0 s ms 0 = none → ∃ a us ps, v5 = .ref a ∧ H a = some (.lst us) ∧ PrL H us ps ∧ us.length ≤ 100 ∧ ∀ H', Same H H' → Q (.int (countM n x b s ps n.toNat : Nat)) H')
section
variable {P : Program} {K : PySem.W.Frag} {w : World} {base : Heap} {mg : Str → Option Value} {CN CW CP CM : Addr}
theorem scDistance : FnScope ["pages", "begin", "page"] ["pages", "begin", "page"] (defScope sDistance) := ⟨rfl, rfl, rfl, by decide +kernel, rfl, by decide +kernel, by decide +kernel⟩
theorem ok_distance {f : Addr} {fd : FuncData} (F : Fun K "distance" "distance" sDistance f fd) (D1 : DfX P w K mg base 3 "_check_pages" ["pages"] (spPages CN)) (D3 : DfX P w K mg base 3 "check_page" ["pages", "page"] (spPage CP)) : FnOk P w K mg base (L2.CX P w) 4 f fd ["pages", "begin", "page"] (spDist CN CP) := by
  obtain ⟨e1, fd1, G1, m1, k1, b1⟩ := D1.ex
  obtain ⟨e3, fd3, G3, m3, k3, b3⟩ := D3.ex
  refine F.okX scDistance (fun vs H Q E h => ?_) (fun cdv A outer s H vs Q E hr h => ?_)
  · obtain ⟨v1, v2, v3, rfl, _⟩ := h
    rfl
  · obtain ⟨v1, v2, v3, rfl, d1, f1, q1, r1⟩ := h
    refine ⟨_, pss_cons (ps_expr (pe_call (E := E) G1 hr (by rfl) m1 k1 b1 .nil (passes_call (takes_of rfl rfl rfl rfl) fun _ _ _ _ h => h) (pa_cons (pv 0) pa_nil)))
      (pss_cons (ps_expr (pe_call (E := E) G3 hr (by rfl) m3 k3 b3 .nil (passes_call (takes_of rfl rfl rfl rfl) fun _ _ _ _ h => h) (pa_cons (pv 0) (pa_cons (pv 1) pa_nil))))
      (pss_cons (ps_expr (pe_call (E := E) G3 hr (by rfl) m3 k3 b3 .nil (passes_call (takes_of rfl rfl rfl rfl) fun _ _ _ _ h => h) (pa_cons (pv 0) (pa_cons (pv 2) pa_nil))))
      (pss_one (ps_ret (pe_op op_mod (pe_op op_sub (pv 2) (pv 1)) (pv 0)))))), ?_⟩
    refine ⟨v1, rfl, v1, d1, rfl, f1, fun i1 => ?_, r1⟩
    obtain ⟨n, rfl, _, c0, c1⟩ := within_inv f1 i1
    obtain ⟨d2, f2, q2, r2⟩ := q1 i1 n rfl c0 c1
    refine ⟨_, rfl, v2, rfl, n, v2, d2, rfl, f2, fun i2 => ?_, r2⟩
    obtain ⟨b, rfl, _, c2, c3⟩ := within_inv f2 i2
    obtain ⟨d3, f3, q3, r3⟩ := q2 i2 b rfl c2 c3
    refine ⟨_, rfl, v3, rfl, n, v3, d3, rfl, f3, fun i3 => ?_, r3⟩
    obtain ⟨p, rfl, _, c4, c5⟩ := within_inv f3 i3
    exact ⟨_, rfl, _, rfl, _, _, rfl, rfl, _, rfl, _, _, rfl, rfl, by omega, q3 i3 p rfl c4 c5⟩
theorem Cw.imp {v1 v2 v3 v4 : V} {H : Hp} {E : XK} {g1 g2 : Int → Str → Int → Int → Prop} (h : Cw K CN CW CP v1 v2 v3 v4 H E g1)
    (i : ∀ n x b s, v1 = .int n → v2 = .str x → v3 = .int b → v4 = .int s → 1 ≤ n → n ≤ 6 → okRule (some x) = true → 0 ≤ b → b ≤ n - 1 → 0 ≤ s → s ≤ n - 1 → g1 n x b s → g2 n x b s) : Cw K CN CW CP v1 v2 v3 v4 H E g2 := by
  obtain ⟨d1, f1, q1, r1⟩ := h
  refine ⟨d1, f1, fun i1 n e1 a1 b1 => ?_, r1⟩
  obtain ⟨o, f2, q2, r2⟩ := q1 i1 n e1 a1 b1
  refine ⟨o, f2, fun i2 x e2 a2 => ?_, r2⟩
  obtain ⟨d3, f3, q3, r3⟩ := q2 i2 x e2 a2
  refine ⟨d3, f3, fun i3 b e3 a3 b3 => ?_, r3⟩
  obtain ⟨d4, f4, q4, r4⟩ := q3 i3 b e3 a3 b3
  exact ⟨d4, f4, fun i4 s e4 a4 b4 => i n x b s e1 e2 e3 e4 a1 b1 a2 a3 b3 a4 b4 (q4 i4 s e4 a4 b4), r4⟩
theorem kitAny_no {kd : String} (nl : PySem.W.kitOne K (.type kd) (.type "list") = some false) (nt : PySem.W.kitOne K (.type kd) (.type "tuple") = some false) : PySem.W.kitAny K (.type kd) [.type "list", .type "tuple"] = some false := by
  unfold PySem.W.kitAny
  rw [nl]
  show PySem.W.kitAny K (.type kd) [.type "tuple"] = some false
  unfold PySem.W.kitAny
  rw [nt]
  rfl
theorem kitAny_l : PySem.W.kitAny K (.type "list") [.type "list", .type "tuple"] = some true := by
  unfold PySem.W.kitAny
  rw [show PySem.W.kitOne K (.type "list") (.type "list") = some true from kit_ty (show kitB "list" "list" = some true from by decide +kernel)]
theorem kitAny_t : PySem.W.kitAny K (.type "tuple") [.type "list", .type "tuple"] = some true := by
  unfold PySem.W.kitAny
  rw [show PySem.W.kitOne K (.type "tuple") (.type "list") = some false from kit_ty (show kitB "tuple" "list" = some false from by decide +kernel)]
  show PySem.W.kitAny K (.type "tuple") [.type "tuple"] = some true
  unfold PySem.W.kitAny
  rw [show PySem.W.kitOne K (.type "tuple") (.type "tuple") = some true from kit_ty (show kitB "tuple" "tuple" = some true from by decide +kernel)]
theorem scIsLet : FnScope psF psF (defScope sIsLet) := ⟨rfl, rfl, rfl, by decide +kernel, rfl, by decide +kernel, by decide +kernel⟩
theorem ok_islet {f : Addr} {fd : FuncData} (F : Fun K "is_let" "is_let" sIsLet f fd) (T : Cst mg) (D1 : DfX P w K mg base 4 "_check_walk" psW (spWalk K CN CW CP)) (DF : Df P w K mg base 3 "_first_wrong" psF (spFirst K)) : FnOk P w K mg base (L2.CX P w) 5 f fd psF (spIsLet K CN CW CP) := by
  obtain ⟨e1, fd1, G1, m1, k1, b1⟩ := D1.ex
  obtain ⟨e2, fd2, G2, m2, k2, b2⟩ := DF.ex
  refine F.okX scIsLet (fun vs H Q E h => ?_) (fun cdv A outer s H vs Q E hr h => ?_)
  · obtain ⟨v1, v2, v3, v4, v5, rfl, _⟩ := h
    rfl
  · obtain ⟨v1, v2, v3, v4, v5, rfl, h⟩ := h
    refine ⟨_, pss_cons (ps_expr (pe_call (E := E) G1 hr (by rfl) m1 k1 b1 .nil (passes_call (takes_of rfl rfl rfl rfl) fun _ _ _ _ h => h) (pa_cons (pv 0) (pa_cons (pv 1) (pa_cons (pv 2) (pa_cons (pv 3) pa_nil))))))
      (pss_one (ps_ret (pe_and (pe_callB call_isiT (by rfl) T.isi (by decide +kernel) (pa_cons (pv 4) (pa_cons (pe_tup (pa_cons (pe_bltn (v := .ty "list") (by rfl) T.tlst (by decide +kernel) rfl) (pa_cons (pe_bltn (v := .ty "tuple") (by rfl) T.ttup (by decide +kernel) rfl) pa_nil))) pa_nil)))
        (pe_one (pe_cmpR op_isN (pe_call G2 (hr.mono (by decide)) (by rfl) m2 k2 b2 .nil pass0 (pa_cons (pv 0) (pa_cons (pv 1) (pa_cons (pv 2) (pa_cons (pv 3) (pa_cons (pv 4) pa_nil)))))) pe_non (nomark _)))))), ?_⟩
    refine ⟨v1, rfl, v2, rfl, v3, rfl, v4, rfl, v1, v2, v3, v4, rfl, h.imp ?_⟩
    rintro n x b s rfl rfl rfl rfl n1 n6 hx b0 b1 s0 s1 ⟨om, hm, q⟩
    refine ⟨v5, rfl, by show 2 ≤ sizeLine; decide, fun tp htp => ?_⟩
    have sT : Same H (upd H tp (.tup [.ty "list", .ty "tuple"])) := same_up htp
    cases hm with
    | @no _ kd t nl nt => exact ⟨v5, tp, _, _, _, _, rfl, upd_same, .cons (.ty _) (.cons (.ty _) .nil), t _ sT, kitAny_no nl nt, _, rfl, iteF (q _ sT)⟩
    | @lst a vs ms hl hv l =>
      refine ⟨_, tp, _, _, _, _, rfl, upd_same, .cons (.ty _) (.cons (.ty _) .nil), .base (.lst (sT _ _ hl)), kitAny_l, _, rfl, iteT ?_⟩
      refine ⟨_, rfl, _, rfl, _, rfl, _, rfl, _, rfl, n, b, s, x, _, ms, rfl, n1, n6, .lst (sT _ _ hl) (hv.same sT) l, fun G s2 => ⟨rfl, ?_⟩⟩
      have q2 := q G (sT.trans s2)
      have e : letB n x b s (some ms) = decide (optV (firstW n x b 0 s ms 0) = .non) := by
        show (firstW n x b 0 s ms 0).isNone = _
        cases firstW n x b 0 s ms 0 with
        | none => rfl
        | some i => rfl
      rw [e] at q2
      exact q2
    | @tup a vs ms hl hv l =>
      refine ⟨_, tp, _, _, _, _, rfl, upd_same, .cons (.ty _) (.cons (.ty _) .nil), .base (.tup (sT _ _ hl)), kitAny_t, _, rfl, iteT ?_⟩
      refine ⟨_, rfl, _, rfl, _, rfl, _, rfl, _, rfl, n, b, s, x, _, ms, rfl, n1, n6, .tup (sT _ _ hl) (hv.same sT) l, fun G s2 => ⟨rfl, ?_⟩⟩
      have q2 := q G (sT.trans s2)
      have e : letB n x b s (some ms) = decide (optV (firstW n x b 0 s ms 0) = .non) := by
        show (firstW n x b 0 s ms 0).isNone = _
        cases firstW n x b 0 s ms 0 with
        | none => rfl
        | some i => rfl
      rw [e] at q2
      exact q2
theorem scSights : FnScope ["pages", "rule", "begin", "page", "moves", "wrong"] psF (defScope sSights) := ⟨rfl, rfl, rfl, by decide +kernel, rfl, by decide +kernel, by decide +kernel⟩
theorem ok_sights {f : Addr} {fd : FuncData} (F : Fun K "sights" "sights" sSights f fd) (T : Cst mg) (M : Mak P w K mg base "NoMoves" CM) (D1 : DfX P w K mg base 4 "_check_walk" psW (spWalk K CN CW CP)) (DF : Df P w K mg base 3 "_first_wrong" psF (spFirst K)) (DS : Df P w K mg base 1 "_sights" psF spSeen) : FnOk P w K mg base (L2.CX P w) 5 f fd psF (spSights K CN CW CP CM) := by
  obtain ⟨e1, fd1, G1, m1, k1, b1⟩ := D1.ex
  obtain ⟨e2, fd2, G2, m2, k2, b2⟩ := DF.ex
  obtain ⟨e3, fd3, G3, m3, k3, b3⟩ := DS.ex
  obtain ⟨fI, fdI, TE, GI, bI⟩ := M.ex
  refine F.okX scSights (fun vs H Q E h => ?_) (fun cdv A outer s H vs Q E hr h => ?_)
  · obtain ⟨v1, v2, v3, v4, v5, rfl, _⟩ := h
    rfl
  · obtain ⟨v1, v2, v3, v4, v5, rfl, h⟩ := h
    refine ⟨_, pss_cons (ps_expr (pe_call (E := E) G1 hr (by rfl) m1 k1 b1 .nil (passes_call (takes_of rfl rfl rfl rfl) fun _ _ _ _ h => h) (pa_cons (pv 0) (pa_cons (pv 1) (pa_cons (pv 2) (pa_cons (pv 3) pa_nil))))))
      (pss_cons (ps_if (pt_not (pt_val (pe_callB call_isiT (by rfl) T.isi (by decide +kernel) (pa_cons (pv 4) (pa_cons (pe_tup (pa_cons (pe_bltn (v := .ty "list") (by rfl) T.tlst (by decide +kernel) rfl) (pa_cons (pe_bltn (v := .ty "tuple") (by rfl) T.ttup (by decide +kernel) rfl) pa_nil))) pa_nil)))))
        (pss_one (ps_raise rfl (takes_of rfl rfl rfl rfl) (pmk_oex TE.ox TE.iC TE.tI GI (hr.mono (by decide)) bI .nil pass0 (by rfl) TE.gC (pa_cons pe_non pa_nil)))) pss_nil)
      (pss_cons (ps_set (i := 5) scSights.nd rfl (Or.inl rfl) (pe_call G2 (hr.mono (by decide)) (by rfl) m2 k2 b2 .nil pass0 (pa_cons (pv 0) (pa_cons (pv 1) (pa_cons (pv 2) (pa_cons (pv 3) (pa_cons (pv 4) pa_nil)))))))
      (pss_cons (ps_if (pt_cmpR op_notN (pv 5) pe_non (nomark _))
        (pss_one (ps_raise rfl (takes_of rfl rfl rfl rfl) (pmk_oex TE.ox TE.iC TE.tI GI (hr.mono (by decide)) bI .nil pass0 (by rfl) TE.gC (pa_cons (pv 5) pa_nil)))) pss_nil)
      (pss_one (ps_ret (pe_call G3 (hr.mono (by decide)) (by rfl) m3 k3 b3 .nil pass0 (pa_cons (pv 0) (pa_cons (pv 1) (pa_cons (pv 2) (pa_cons (pv 3) (pa_cons (pv 4) pa_nil))))))))))), ?_⟩
    refine ⟨v1, rfl, v2, rfl, v3, rfl, v4, rfl, v1, v2, v3, v4, rfl, h.imp ?_⟩
    rintro n x b s rfl rfl rfl rfl n1 n6 hx b0 b1 s0 s1 q
    refine ⟨v5, rfl, by show 2 ≤ sizeLine; decide, fun tp htp => ?_⟩
    have sT : Same H (upd H tp (.tup [.ty "list", .ty "tuple"])) := same_up htp
    rcases q with ⟨hm, q⟩ | ⟨ms, hm, q1, q2⟩
    · cases hm with
      | @no _ kd t nl nt => exact ⟨v5, tp, _, _, _, _, rfl, upd_same, .cons (.ty _) (.cons (.ty _) .nil), t _ sT, kitAny_no nl nt, _, rfl, iteT (raised_c TE.ox TE.no (q.same sT))⟩
    have rest : ∀ G, Same H G → (optV (firstW n x b 0 s ms 0) = .non ∨ ∃ i : Nat, firstW n x b 0 s ms 0 = some i) := fun G _ => by
      cases firstW n x b 0 s ms 0 with
      | none => exact .inl rfl
      | some i => exact .inr ⟨i, rfl⟩
    cases hm with
    | @lst a vs ms hl hv l =>
      refine ⟨_, tp, _, _, _, _, rfl, upd_same, .cons (.ty _) (.cons (.ty _) .nil), .base (.lst (sT _ _ hl)), kitAny_l, _, rfl, iteF ?_⟩
      refine ⟨_, rfl, _, rfl, _, rfl, _, rfl, _, rfl, n, b, s, x, _, ms, rfl, n1, n6, .lst (sT _ _ hl) (hv.same sT) l, fun G s2 => ⟨_, rfl, rfl, _, rfl, ?_⟩⟩
      cases e : firstW n x b 0 s ms 0 with
      | some i => exact iteT (raised_v TE.ox TE.no rfl ((q1 i e).same (sT.trans s2)))
      | none =>
        refine iteF ?_
        obtain ⟨a2, us, ps, ea, ha, hp, lu, q3⟩ := q2 e
        refine ⟨_, rfl, _, rfl, _, rfl, _, rfl, _, rfl, n, b, s, x, a2, us, ps, by rw [ea]; rfl, n1, n6, (sT.trans s2) _ _ ha, hp.same (sT.trans s2), lu, fun G' s3 => q3 G' ((sT.trans s2).trans s3)⟩
    | @tup a vs ms hl hv l =>
      refine ⟨_, tp, _, _, _, _, rfl, upd_same, .cons (.ty _) (.cons (.ty _) .nil), .base (.tup (sT _ _ hl)), kitAny_t, _, rfl, iteF ?_⟩
      refine ⟨_, rfl, _, rfl, _, rfl, _, rfl, _, rfl, n, b, s, x, _, ms, rfl, n1, n6, .tup (sT _ _ hl) (hv.same sT) l, fun G s2 => ⟨_, rfl, rfl, _, rfl, ?_⟩⟩
      cases e : firstW n x b 0 s ms 0 with
      | some i => exact iteT (raised_v TE.ox TE.no rfl ((q1 i e).same (sT.trans s2)))
      | none =>
        refine iteF ?_
        obtain ⟨a2, us, ps, ea, ha, hp, lu, q3⟩ := q2 e
        cases ea
        rw [hl] at ha
        cases ha
theorem scSeen : FnScope ["pages", "rule", "begin", "page", "moves", "own", "lain", "count", "visit", "here", "behind", "other"] psF (defScope sSeen) := ⟨rfl, rfl, rfl, by decide +kernel, rfl, by decide +kernel, by decide +kernel⟩
theorem ok_seen {f : Addr} {fd : FuncData} (F : Fun K "_sights" "_sights" sSeen f fd) (T : Cst mg) : FnOk P w K mg base CX0 1 f fd psF spSeen := by
  refine F.ok scSeen (fun vs H Q E h => ?_) (fun cdv A outer s H vs Q E hr h => ?_)
  · obtain ⟨n, b, s, x, a, us, ps, rfl, _⟩ := h
    rfl
  · obtain ⟨n, b, s, x, a, us, ps, rfl, n1, n6, ha, hp, lu, q⟩ := h
    have inner : ∃ tb, PSs (cxOf CX0 P w K mg base ["pages", "rule", "begin", "page", "moves", "own", "lain", "count", "visit", "here", "behind", "other"] "_sights" (defScope sSeen) f cdv A outer ‹Shared› H E).nox (match defBody sSeen with
        | [_, _, _, .For _ _ [_, _, g] _ _, _] => [g]
        | _ => []) tb ∧
        ∀ (D : Ends) (G : Hp) (k : Nat) (c here : Int) (L : Addr) (x10 x11 : Option V), Same H G → H L = none → G L = some (.lst ((lay s ps k).map V.int)) → k ≤ 5 →
          (∀ G' y10 y11, Same H G' → G' L = some (.lst ((lay s ps (k + 1)).map V.int)) → D.nx [some (.int n), some (.str x), some (.int b), some (.int s), some (.ref a), some (.int (lastI (lay s ps (k + 1)))), some (.ref L), some (.int c), some (.int (k : Nat)), some (.int here), y10, y11] G') →
          tb D [some (.int n), some (.str x), some (.int b), some (.int s), some (.ref a), some (.int (lastI (lay s ps k))), some (.ref L), some (.int c), some (.int (k : Nat)), some (.int here), x10, x11] G := by
      refine ⟨_, pss_one (ps_for PassesOwn.never rfl (pi_list (pv 4)) (pg_tup rfl (pgs_cons (pg_name (i := 10) scSeen.nd rfl (Or.inl rfl)) (pgs_cons (pg_name (i := 11) scSeen.nd rfl (Or.inl rfl)) pgs_nil)))
          (pss_one (ps_if (pt_cmpR op_eq (pv 10) (pv 8) (nomark _)) (pss_cons (ps_set (i := 5) scSeen.nd rfl (Or.inl rfl) (pv 11)) (pss_one (ps_expr (pe_bm PySem.F.plainAttrs_list PySem.F.slot_list_append PySem.F.type_list_append mt_append (pv 6) (pa_cons (pv 11) pa_nil))))) pss_nil))), ?_⟩
      intro D G k c here L x10 x11 s1 nL hL hk next
      have hpl : us.length = ps.length := hp.len
      have mvl : ∀ i, (lay s ps k ++ ((ps.take i).filter fun p => decide (p.1 = (k : Int))).map fun p => p.2).length < 1000 := fun i => by
        have h1 := lay_len s ps k
        have h2 : ((ps.take i).filter fun p => decide (p.1 = (k : Int))).length ≤ (ps.take i).length := List.length_filter_le _ _
        have h3 : (ps.take i).length ≤ ps.length := by
          rw [List.length_take]
          exact Nat.min_le_right _ _
        have h4 : k * ps.length ≤ 5 * 100 := Nat.mul_le_mul hk (by omega)
        rw [List.length_append, List.length_map]
        omega
      refine ⟨_, rfl, a, rfl, ⟨_, SqL.of (s1 _ _ ha)⟩, for_list (K := K) (a := a) (xs := us) (fun i σ G' => ∃ y10 y11, σ = [some (.int n), some (.str x), some (.int b), some (.int s), some (.ref a), some (.int (lastI (lay s ps k ++ ((ps.take i).filter fun p => decide (p.1 = (k : Int))).map fun p => p.2))), some (.ref L), some (.int c), some (.int (k : Nat)), some (.int here), y10, y11] ∧ Same H G' ∧
          G' L = some (.lst ((lay s ps k ++ ((ps.take i).filter fun p => decide (p.1 = (k : Int))).map fun p => p.2).map V.int)))
        ⟨x10, x11, by rw [List.take_zero, List.filter_nil, List.map_nil, List.append_nil], s1, by rw [List.take_zero, List.filter_nil, List.map_nil, List.append_nil]; exact hL⟩ (fun i σ G' _ h => by
          obtain ⟨_, _, _, s2, _⟩ := h
          exact SqL.of (s2 _ _ ha)) ?_ ?_⟩
      · rintro i y σ G' hy ⟨y10, y11, rfl, s2, hL2⟩
        obtain ⟨p, hpi, a2, rfl, ha2⟩ := hp.at hy
        refine ⟨a2, _, rfl, SqT.of (s2 _ _ ha2), rfl, _, _, rfl, _, _, rfl, rfl, ?_⟩
        refine ⟨_, rfl, _, rfl, rfl, _, rfl, ?_⟩; skip
        rw [intV_eq]
        by_cases e : p.1 = (k : Int)
        · rw [decide_eq_true e]
          refine iteT ?_
          have eL : (lay s ps k ++ ((ps.take (i + 1)).filter fun p => decide (p.1 = (k : Int))).map fun p => p.2) = (lay s ps k ++ ((ps.take i).filter fun p => decide (p.1 = (k : Int))).map fun p => p.2) ++ [p.2] := by
            rw [takeS hpi, List.filter_append, List.filter_cons, if_pos (decide_eq_true e), List.filter_nil, List.map_append, ← List.append_assoc]
            rfl
          refine ⟨_, rfl, _, rfl, .inl ⟨rfl, _, SqL.of hL2⟩, _, rfl, L, _, _, rfl, rfl, hL2, ?_, ?_⟩
          · rw [List.length_map]
            exact small1000 (Nat.le_of_lt (mvl i))
          · refine ⟨some (.int p.1), some (.int p.2), ?_, fun bb o hb => ?_, ?_⟩
            · rw [eL, lastI_app]
              rfl
            · rw [upd_ne (ne_of_none hb nL)]
              exact s2 _ _ hb
            · refine upd_same.trans ?_
              rw [eL]
              exact congrArg (fun z => some (HO.lst z)) (List.map_append (f := V.int) (l₂ := [p.2])).symm
        · rw [decide_eq_false e]
          refine iteF ⟨some (.int p.1), some (.int p.2), ?_, s2, ?_⟩
          · rw [takeS hpi, List.filter_append, List.filter_cons, if_neg (by rw [decide_eq_false e]; decide), List.filter_nil, List.append_nil]
            rfl
          · rw [takeS hpi, List.filter_append, List.filter_cons, if_neg (by rw [decide_eq_false e]; decide), List.filter_nil, List.append_nil]
            exact hL2
      · rintro σ G' ⟨y10, y11, rfl, s2, hL2⟩
        rw [hpl, List.take_length] at hL2
        have := next G' y10 y11 s2 hL2
        rw [hpl, List.take_length]
        exact this
    obtain ⟨tb, hb, rd⟩ := inner
    refine ⟨_, pss_cons (ps_set (i := 5) scSeen.nd rfl (Or.inl rfl) (pv 3)) (pss_cons (ps_set (i := 6) scSeen.nd rfl (Or.inl rfl) (pe_lst (pa_cons (pv 3) pa_nil))) (pss_cons (ps_set (i := 7) scSeen.nd rfl (Or.inl rfl) pe_int)
      (pss_cons (ps_for PassesOwn.never rfl (pi_range1 rfl T.rng (pa_cons (pv 0) pa_nil)) (pg_name (i := 8) scSeen.nd rfl (Or.inl rfl))
        (pss_cons (ps_set (i := 9) scSeen.nd rfl (Or.inl rfl) (pe_op op_mod (pe_op op_add (pv 2) (pv 8)) (pv 0)))
        (pss_cons (ps_if (PW.pt (pw_or (pt_cmpR op_eq (pv 9) (pv 5) (nomark _)) (pw_or1 (PW.pt (pw_and (pt_cmpR op_eq (pv 1) pe_str (nomark _)) (pw_and1 (pt_cmpR op_in_seq (pv 9) (pv 6) (by rfl)))))))) (pss_one (ps_aug (i := 7) scSeen.nd rfl (.inl rfl) pe_int ip_add)) pss_nil)
        hb)))
      (pss_one (ps_ret (pv 7)))))), ?_⟩
    refine ⟨_, rfl, _, rfl, by show 1 ≤ sizeLine; decide, fun L hL => ?_⟩
    refine ⟨_, rfl, n, rfl, by omega, by omega, for_range (n := n.toNat) (fun k σ G => ∃ x8 x9 x10 x11, σ = [some (.int n), some (.str x), some (.int b), some (.int s), some (.ref a), some (.int (lastI (lay s ps k))), some (.ref L), some (.int (countM n x b s ps k : Nat)), x8, x9, x10, x11] ∧ Same H G ∧ G L = some (.lst ((lay s ps k).map V.int)))
      ⟨_, _, _, _, rfl, same_up hL, upd_same⟩ ?_ ?_⟩
    · rintro k σ G hk ⟨x8, x9, x10, x11, rfl, s1, hLk⟩
      refine ⟨_, rfl, _, rfl, _, _, rfl, rfl, _, rfl, _, _, rfl, rfl, by omega, ?_⟩
      rw [Int.zero_add]
      have k5 : k ≤ 5 := by omega
      refine ⟨_, rfl, _, rfl, rfl, _, rfl, ?_⟩; skip
      rw [intV_eq]
      have yes : metB n x b s ps k = true → ((countM n x b s ps k : Nat) : Int) + 1 = (countM n x b s ps (k + 1) : Nat) := fun e => by
        show _ = (((countM n x b s ps k + (if metB n x b s ps k = true then 1 else 0)) : Nat) : Int)
        rw [if_pos e]
        rfl
      have no : metB n x b s ps k = false → ((countM n x b s ps k : Nat) : Int) = (countM n x b s ps (k + 1) : Nat) := fun e => by
        show _ = (((countM n x b s ps k + (if metB n x b s ps k = true then 1 else 0)) : Nat) : Int)
        rw [e]
        rfl
      by_cases e1 : (b + k) % n = lastI (lay s ps k)
      · rw [decide_eq_true e1]
        refine iteT ⟨_, rfl, _, _, rfl, rfl, rd _ G k _ _ L _ _ s1 hL hLk k5 fun G' y10 y11 s2 h2 => ⟨some (.int (k : Nat)), some (.int ((b + k) % n)), y10, y11, ?_, s2, h2⟩⟩
        dsimp only; rw [yes (by unfold metB; rw [decide_eq_true e1, Bool.true_or])]
      · rw [decide_eq_false e1]
        refine iteF ⟨_, rfl, rfl, _, rfl, ?_⟩
        rw [strV_eq]
        by_cases e2 : x = "left"
        · rw [decide_eq_true e2]
          refine iteT ⟨_, rfl, _, rfl, L, _, rfl, .inl (SqL.of hLk), rfl, flat_ints _, _, rfl, ?_⟩
          rw [show (if false = true then !inV (V.int ((b + k) % n)) ((lay s ps k).map V.int) else inV (V.int ((b + k) % n)) ((lay s ps k).map V.int)) = decide ((b + k) % n ∈ lay s ps k) from inV_ints _ _]
          by_cases e3 : (b + k) % n ∈ lay s ps k
          · rw [decide_eq_true e3]
            refine iteT ⟨_, rfl, _, _, rfl, rfl, rd _ G k _ _ L _ _ s1 hL hLk k5 fun G' y10 y11 s2 h2 => ⟨some (.int (k : Nat)), some (.int ((b + k) % n)), y10, y11, ?_, s2, h2⟩⟩
            dsimp only; rw [yes (by unfold metB; rw [decide_eq_true e2, decide_eq_true e3, Bool.and_self, Bool.or_true])]
          · rw [decide_eq_false e3]
            refine iteF (rd _ G k _ _ L _ _ s1 hL hLk k5 fun G' y10 y11 s2 h2 => ⟨some (.int (k : Nat)), some (.int ((b + k) % n)), y10, y11, ?_, s2, h2⟩)
            rw [no (by unfold metB; rw [decide_eq_false e1, decide_eq_false e3, Bool.and_false, Bool.or_false])]
        · rw [decide_eq_false e2]
          refine iteF (rd _ G k _ _ L _ _ s1 hL hLk k5 fun G' y10 y11 s2 h2 => ⟨some (.int (k : Nat)), some (.int ((b + k) % n)), y10, y11, ?_, s2, h2⟩)
          rw [no (by unfold metB; rw [decide_eq_false e1, decide_eq_false e2, Bool.false_and, Bool.or_false])]
    · rintro σ G ⟨x8, x9, x10, x11, rfl, s1, hLk⟩
      exact ⟨_, rfl, q G s1⟩
end
end Pl

namespace Pl
open L2 PySem PySem.Spec PyProof.Rows
/-- the source of draws stands at z -/
def Src (z : Addr) (H : Hp) : Prop := ∃ x y : Int, H z = some (.lst [.int x, .int y]) ∧ 0 ≤ x ∧ 0 ≤ y ∧ y < 2147483647
theorem Src.some {z : Addr} {H : Hp} (h : Src z H) : ∃ o, H z = some o := let ⟨x, y, e, _⟩ := h; ⟨_, e⟩
def spPool (K : PySem.W.Frag) : Sp := fun vs H Q _ => ∃ (a : Addr) (ns : List Int) (k : Int), vs = [.ref a, .int k] ∧ SqL K H a (ns.map V.int) ∧ 0 ≤ k ∧ k ≤ 10 ∧ ∀ p H', H p = none → Same H H' → Src p H' → Q (.ref p) H'
def spTake : Sp := fun vs H Q _ => ∃ (z : Addr) (t : Int), vs = [.ref z, .int t] ∧ Src z H ∧ 0 < t ∧ t ≤ 1000 ∧ ∀ (r : Int) (H' : Hp), 0 ≤ r → r < t → But z H H' → Src z H' → Q (.int r) H'
def spOne : Sp := fun vs H Q _ => ∃ (z l : Addr) (xs : List V), vs = [.ref z, .ref l] ∧ Src z H ∧ l ≠ z ∧ H l = some (.lst xs) ∧ xs ≠ [] ∧ xs.length ≤ 1000 ∧ ∀ (i : Nat) (v : V) (H' : Hp), xs[i]? = some v → But z H H' → Src z H' → Q v H'
section
variable {P : Program} {K : PySem.W.Frag} {w : World} {base : Heap} {mg : Str → Option Value}
theorem scPool : FnScope ["_law_script", "_law_k", "_law_cell", "_law_big", "_law_mixed"] ["_law_script", "_law_k"] (defScope sPool) := ⟨rfl, rfl, rfl, by decide +kernel, rfl, by decide +kernel, by decide +kernel⟩
theorem ok_pool {f : Addr} {fd : FuncData} (F : Fun K "_law_pool" "_law_pool" sPool f fd) (T : Cst mg) : FnOk P w K mg base CX0 1 f fd ["_law_script", "_law_k"] (spPool K) := by
  refine F.ok scPool (fun vs H Q E h => ?_) (fun cdv A outer s H vs Q E hr h => ?_)
  · obtain ⟨a, ns, k, rfl, _⟩ := h; skip
    rfl
  · obtain ⟨a, ns, k, rfl, hS, k0, k1, q⟩ := h
    refine ⟨_, pss_cons (ps_set (i := 2) scPool.nd rfl (Or.inl rfl) pe_int)
      (pss_cons (ps_if (pt_cmpR op_lt (pv 1) (pe_callB call_len_seq (by rfl) T.len PySem.boot_len (pa_cons (pv 0) pa_nil)) (nomark _))
        (pss_one (ps_set (i := 2) scPool.nd rfl (Or.inl rfl) (pe_ix ix_list (pv 0) (pv 1) (fun _ _ => rfl)))) pss_nil)
      (pss_cons (ps_set (i := 3) scPool.nd rfl (Or.inl rfl) (pe_callB (call_max2 rfl) (by rfl) T.max_ (by decide +kernel) (pa_cons (pe_callTy call_int1 (by rfl) T.tint (by decide +kernel) (pa_cons (pv 2) pa_nil))
        (pa_cons (pe_callTy call_int1 (by rfl) T.tint (by decide +kernel) (pa_cons (pe_op op_sub (pe_un un_neg pe_int) (pv 2)) pa_nil)) pa_nil))))
      (pss_cons (ps_set (i := 4) scPool.nd rfl (Or.inl rfl) (pe_op op_mod (pe_callTy call_int1 (by rfl) T.tint (by decide +kernel) (pa_cons
          (pe_op op_mul (pe_op op_add (pe_op op_add (pe_op op_add (pe_op op_mod (pe_callTy call_int1 (by rfl) T.tint (by decide +kernel) (pa_cons (pv 3) pa_nil)) pe_int) (pe_op op_mul (pe_op op_mul pe_int (pv 1)) (pv 1))) (pe_op op_mul pe_int (pv 1))) pe_int) pe_int) pa_nil)) pe_int))
      (pss_one (ps_ret (pe_lst (pa_cons (pe_op op_mul (pv 3) (pe_callTy call_int1 (by rfl) T.tint (by decide +kernel) (pa_cons (pe_cmpR op_ge (pv 3) (pe_op op_pow pe_int pe_int) (nomark _)) pa_nil))) (pa_cons (pv 4) pa_nil)))))))), ?_⟩
    have hbig : ∀ c : Int, 0 ≤ (if (-1 - c) > c then (-1 - c) else c) := fun c => by
      split <;> omega
    have fin : ∀ (b : Int) (p : Addr) (G : Hp), 0 ≤ b → H p = none → Same H G → G p = some (.lst [.int (b * (if decide (b ≥ 10 ^ 18) = true then 1 else 0)), .int (((b % 2147483629 + 7919 * k * k + 31 * k + 17) * 48271) % 2147483647)]) → Q (.ref p) G := fun b p G hb hp sG hG => by
      refine q p G hp sG ⟨_, _, hG, ?_, Int.emod_nonneg _ (by decide), Int.emod_lt_of_pos _ (by decide)⟩
      refine Int.mul_nonneg hb ?_
      split <;> decide
    have bnd : ∀ b : Int, 0 ≤ b % 2147483629 ∧ b % 2147483629 < 2147483629 := fun b => ⟨Int.emod_nonneg _ (by decide), Int.emod_lt_of_pos _ (by decide)⟩
    have kk : 0 ≤ 7919 * k ∧ 7919 * k ≤ 79190 := ⟨by omega, by omega⟩
    have kk2 : 0 ≤ 7919 * k * k ∧ 7919 * k * k ≤ 791900 := ⟨Int.mul_nonneg kk.1 k0, by
      have := Int.mul_le_mul kk.2 k1 k0 (by omega)
      omega⟩
    refine ⟨_, rfl, _, rfl, a, _, rfl, .inl hS, _, _, rfl, rfl, _, rfl, ?_⟩; skip
    refine ite2 (fun e => ?_) fun e => ?_
    · obtain ⟨j, rfl⟩ : ∃ j : Nat, k = j := ⟨k.toNat, by omega⟩
      have hj : j < ns.length := by
        have := of_decide_eq_true e
        rw [List.length_map] at this
        omega
      refine ⟨_, rfl, _, rfl, a, _, _, .int ns[j], rfl, rfl, hS, atI_nat (by rw [List.getElem?_map, List.getElem?_eq_getElem hj]; rfl), ?_⟩
      refine ⟨_, rfl, .inl ⟨_, rfl, ?_⟩⟩
      refine ⟨_, rfl, _, rfl, _, _, rfl, rfl, .inl ⟨_, rfl, ?_⟩⟩
      refine ⟨_, _, rfl, ?_⟩
      have hb := hbig (ns[j])
      revert hb
      generalize (if (-1 - ns[j]) > ns[j] then (-1 - ns[j]) else ns[j]) = b
      intro hb
      have h1 := bnd b
      refine ⟨_, rfl, .inl ⟨_, rfl, _, _, rfl, rfl, (by show (0 : Int) < 2147483629; decide), ?_⟩⟩
      refine ⟨_, rfl, _, _, rfl, rfl, .inl ⟨by decide, by decide⟩, _, rfl, _, _, rfl, rfl, .inl ⟨by omega, by omega⟩, ?_⟩
      refine ⟨_, _, rfl, rfl, _, rfl, _, _, rfl, rfl, .inl ⟨by decide, by decide⟩, _, _, rfl, rfl, _, _, rfl, rfl, ?_⟩
      refine ⟨_, _, rfl, rfl, .inl ⟨by omega, by omega⟩, .inl ⟨_, rfl, _, _, rfl, rfl, (by show (0 : Int) < 2147483647; decide), ?_⟩⟩
      refine ⟨_, rfl, _, rfl, _, _, rfl, rfl, ⟨by decide, by decide, by decide⟩, _, _, rfl, rfl, .inr ⟨_, rfl, _, _, rfl, rfl, .inr ⟨?_, ?_⟩, _, rfl, (by show 2 ≤ sizeLine; decide), fun p hp => fin b p _ hb hp (same_new hp) upd_same⟩⟩
      · split <;> decide
      · split <;> decide
    · refine ⟨_, rfl, .inl ⟨_, rfl, ?_⟩⟩
      refine ⟨_, rfl, _, rfl, _, _, rfl, rfl, .inl ⟨_, rfl, ?_⟩⟩
      refine ⟨_, _, rfl, ?_⟩
      have hb := hbig (0)
      revert hb
      generalize (if (-1 - 0) > 0 then (-1 - 0) else 0) = b
      intro hb
      have h1 := bnd b
      refine ⟨_, rfl, .inl ⟨_, rfl, _, _, rfl, rfl, (by show (0 : Int) < 2147483629; decide), ?_⟩⟩
      refine ⟨_, rfl, _, _, rfl, rfl, .inl ⟨by decide, by decide⟩, _, rfl, _, _, rfl, rfl, .inl ⟨by omega, by omega⟩, ?_⟩
      refine ⟨_, _, rfl, rfl, _, rfl, _, _, rfl, rfl, .inl ⟨by decide, by decide⟩, _, _, rfl, rfl, _, _, rfl, rfl, ?_⟩
      refine ⟨_, _, rfl, rfl, .inl ⟨by omega, by omega⟩, .inl ⟨_, rfl, _, _, rfl, rfl, (by show (0 : Int) < 2147483647; decide), ?_⟩⟩
      refine ⟨_, rfl, _, rfl, _, _, rfl, rfl, ⟨by decide, by decide, by decide⟩, _, _, rfl, rfl, .inr ⟨_, rfl, _, _, rfl, rfl, .inr ⟨?_, ?_⟩, _, rfl, (by show 2 ≤ sizeLine; decide), fun p hp => fin b p _ hb hp (same_new hp) upd_same⟩⟩
      · split <;> decide
      · split <;> decide
theorem scTake : FnScope ["_law_source", "_law_top", "_law_told"] ["_law_source", "_law_top"] (defScope sTake) := ⟨rfl, rfl, rfl, by decide +kernel, rfl, by decide +kernel, by decide +kernel⟩
theorem ok_take {f : Addr} {fd : FuncData} (F : Fun K "_law_take" "_law_take" sTake f fd) (T : Cst mg) : FnOk P w K mg base CX0 1 f fd ["_law_source", "_law_top"] spTake := by
  refine F.ok scTake (fun vs H Q E h => ?_) (fun cdv A outer s H vs Q E hr h => ?_)
  · obtain ⟨z, t, rfl, _⟩ := h
    rfl
  · obtain ⟨z, t, rfl, ⟨x, y, hz, x0, y0, y1⟩, t0, t1, q⟩ := h
    refine ⟨_, pss_cons (ps_if (pt_cmpR op_gt (pe_ix ix_list (pv 0) pe_int (fun _ _ => rfl)) pe_int (nomark _))
        (pss_cons (ps_set (i := 2) scTake.nd rfl (Or.inl rfl) (pe_op op_mod (pe_callTy call_int1 (by rfl) T.tint (by decide +kernel) (pa_cons (pe_ix ix_list (pv 0) pe_int (fun _ _ => rfl)) pa_nil)) (pv 1)))
        (pss_cons (ps_asg (pe_op op_fdiv (pe_ix ix_list (pv 0) pe_int (fun _ _ => rfl)) (pv 1)) (pg_sub (pv 0) pe_int L2.set_list))
        (pss_one (ps_ret (pv 2))))) pss_nil)
      (pss_cons (ps_asg (pe_op op_mod (pe_callTy call_int1 (by rfl) T.tint (by decide +kernel) (pa_cons (pe_op op_add (pe_op op_mul (pe_ix ix_list (pv 0) pe_int (fun _ _ => rfl)) pe_int) pe_int) pa_nil)) pe_int) (pg_sub (pv 0) pe_int L2.set_list))
      (pss_one (ps_ret (pe_op op_mod (pe_callTy call_int1 (by rfl) T.tint (by decide +kernel) (pa_cons (pe_op op_fdiv (pe_op op_mod (pe_callTy call_int1 (by rfl) T.tint (by decide +kernel) (pa_cons (pe_op op_mul (pe_ix ix_list (pv 0) pe_int (fun _ _ => rfl)) (pe_ix ix_list (pv 0) pe_int (fun _ _ => rfl))) pa_nil)) pe_int) pe_int) pa_nil)) (pv 1))))), ?_⟩
    refine ⟨_, rfl, z, _, _, .int x, rfl, rfl, SqL.of hz, atI_nat (j := 0) rfl, _, _, rfl, rfl, _, rfl, ?_⟩
    refine ite2 (fun e => ?_) fun e => ?_
    · refine ⟨_, rfl, z, _, _, .int x, rfl, rfl, SqL.of hz, atI_nat (j := 0) rfl, .inl ⟨_, rfl, _, rfl, _, _, rfl, rfl, t0, ?_⟩⟩
      refine ⟨_, rfl, z, _, _, .int x, rfl, rfl, SqL.of hz, atI_nat (j := 0) rfl, _, rfl, _, _, rfl, rfl, ⟨t0, by omega⟩, ?_⟩
      refine ⟨_, rfl, z, _, _, 0, rfl, rfl, hz, rfl, _, rfl, ?_⟩
      exact q _ _ (Int.emod_nonneg _ (by omega)) (Int.emod_lt_of_pos _ t0) But.upd ⟨_, _, upd_same, Int.ediv_nonneg x0 (by omega), y0, y1⟩
    · refine ⟨_, rfl, z, _, _, .int y, rfl, rfl, SqL.of hz, atI_nat (j := 1) rfl, _, _, rfl, rfl, .inl ⟨by omega, by omega⟩, _, _, rfl, rfl, .inl ⟨_, rfl, _, _, rfl, rfl, (by show (0 : Int) < 2147483647; decide), ?_⟩⟩
      have h2 : 0 ≤ (y * 39373 + 7) % 2147483647 ∧ (y * 39373 + 7) % 2147483647 < 2147483647 := ⟨Int.emod_nonneg _ (by decide), Int.emod_lt_of_pos _ (by decide)⟩
      refine ⟨_, rfl, z, _, _, 1, rfl, rfl, hz, rfl, ?_⟩
      have hz2 : upd H z (.lst ([V.int x, V.int y].set 1 (V.int ((y * 39373 + 7) % 2147483647)))) z = some (.lst [.int x, .int ((y * 39373 + 7) % 2147483647)]) := upd_same
      refine ⟨_, rfl, z, _, _, .int ((y * 39373 + 7) % 2147483647), rfl, rfl, SqL.of hz2, atI_nat (j := 1) rfl, _, rfl, z, _, _, .int ((y * 39373 + 7) % 2147483647), rfl, rfl, SqL.of hz2, atI_nat (j := 1) rfl, _, _, rfl, rfl, .inl ⟨by omega, by omega⟩, .inl ⟨_, rfl, _, _, rfl, rfl, (by show (0 : Int) < 2147483629; decide), ?_⟩⟩
      refine ⟨_, _, rfl, rfl, ⟨by decide, by decide⟩, .inl ⟨_, rfl, _, rfl, _, _, rfl, rfl, t0, ?_⟩⟩
      exact q _ _ (Int.emod_nonneg _ (by omega)) (Int.emod_lt_of_pos _ t0) But.upd ⟨_, _, hz2, x0, h2.1, h2.2⟩
/-- a draw of this text, as its callers see it -/
abbrev DTake (P : Program) (w : World) (K : PySem.W.Frag) (mg : Str → Option Value) (base : Heap) := Df P w K mg base 1 "_law_take" ["_law_source", "_law_top"] spTake
theorem scOne : FnScope ["_law_source", "_law_things"] ["_law_source", "_law_things"] (defScope sOne) := ⟨rfl, rfl, rfl, by decide +kernel, rfl, by decide +kernel, by decide +kernel⟩
theorem ok_one {f : Addr} {fd : FuncData} (F : Fun K "_law_one" "_law_one" sOne f fd) (T : Cst mg) (D : DTake P w K mg base) : FnOk P w K mg base CX0 2 f fd ["_law_source", "_law_things"] spOne := by
  obtain ⟨g, fdT, GT, mT, kT, bT⟩ := D.ex
  refine F.ok scOne (fun vs H Q E h => ?_) (fun cdv A outer s H vs Q E hr h => ?_)
  · obtain ⟨z, l, xs, rfl, _⟩ := h
    rfl
  · obtain ⟨z, l, xs, rfl, hz, ne, hl, hne, hlen, q⟩ := h
    refine ⟨_, pss_one (ps_ret (pe_ix ix_list (pv 1) (pe_call GT hr (by rfl) mT kT bT .nil pass0 (pa_cons (pv 0) (pa_cons (pe_callB call_len_seq (by rfl) T.len PySem.boot_len (pa_cons (pv 1) pa_nil)) pa_nil))) (fun _ _ => rfl))), ?_⟩
    have pos : 0 < xs.length := List.length_pos_iff.mpr hne
    refine ⟨_, rfl, _, rfl, _, rfl, l, _, rfl, .inl (SqL.of hl), z, _, rfl, hz, by omega, by omega, fun r G r0 r1 b1 s1 => ?_⟩
    obtain ⟨j, rfl⟩ : ∃ j : Nat, r = j := ⟨r.toNat, by omega⟩
    have hj : j < xs.length := by omega
    have e : xs[j]? = some xs[j] := List.getElem?_eq_getElem hj
    exact ⟨l, _, _, xs[j], rfl, rfl, SqL.of (b1 _ _ ne NoT.lst hl), atI_nat e, q j _ G e b1 s1⟩
end
/-! ### visits -/
def vis (n b d : Int) : List Int := (List.range d.toNat).map fun k => (b + (k : Nat)) % n
theorem vis_get (n b d : Int) (k : Nat) (h : k < d.toNat) : vis n b d = vis n b d := rfl
def mayB (n : Int) (x : Str) (b d own t : Int) : Bool := if t = own then false else (!decide (x = "barred")) || (decide (own ∈ vis n b d) || !decide (t ∈ vis n b d))
def spVisited : Sp := fun vs H Q _ => ∃ (n b d : Int), vs = [.int n, .int b, .int d] ∧ 0 < n ∧ -1000 ≤ d ∧ d ≤ 1000 ∧ ∀ p H', Same H H' → H p = none → H' p = some (.lst ((vis n b d).map V.int)) → Q (.ref p) H'
def spMay : Sp := fun vs H Q _ => ∃ (n b d own t : Int) (x : Str), vs = [.int n, .str x, .int b, .int d, .int own, .int t] ∧ 0 < n ∧ -1000 ≤ d ∧ d ≤ 1000 ∧ ∀ H', Same H H' → Q (.bl (mayB n x b d own t)) H'
abbrev psM : List Str := ["_law_size", "_law_way", "_law_begin", "_law_done", "_law_spot", "_law_target"]
section
variable {P : Program} {K : PySem.W.Frag} {w : World} {base : Heap} {mg : Str → Option Value}
theorem scVisited : FnScope ["_law_size", "_law_begin", "_law_done", "_law_visit"] ["_law_size", "_law_begin", "_law_done"] (defScope sVisited) := ⟨rfl, rfl, rfl, by decide +kernel, rfl, by decide +kernel, by decide +kernel⟩
theorem ok_visited {f : Addr} {fd : FuncData} (F : Fun K "_law_visited" "_law_visited" sVisited f fd) (T : Cst mg) : FnOk P w K mg base CX0 1 f fd ["_law_size", "_law_begin", "_law_done"] spVisited := by
  refine F.ok scVisited (fun vs H Q E h => ?_) (fun cdv A outer s H vs Q E hr h => ?_)
  · obtain ⟨n, b, d, rfl, _⟩ := h
    rfl
  · obtain ⟨n, b, d, rfl, hn, d0, d1, q⟩ := h
    refine ⟨_, pss_one (ps_ret (pe_lc (own := [("_law_visit", 3)]) (g := gName 3) (tt := tYes) rfl scVisited.nd (pi_range1 (by rfl) T.rng (pa_cons (pv 2) pa_nil)) (blkOk_by (own := [("_law_visit", 3)]) (N := ["_law_size", "_law_begin", "_law_done", "_law_visit"]) (sc := defScope sVisited) (by decide +kernel))
      (fun _ _ _ _ _ => pg_name (i := 3) scVisited.nd rfl (Or.inl rfl)) (fun _ _ _ _ _ => pts_nil) (fun _ _ _ _ _ => pe_op op_mod (pe_callTy call_int1 (by rfl) T.tint (by decide +kernel) (pa_cons (pe_op op_add (pv 1) (pv 3)) pa_nil)) (pv 0)))), ?_⟩
    refine ⟨_, rfl, d, rfl, by omega, by omega, fun D hD => lc_range (lo := 0) (n := d.toNat) (fun i G => Same H G ∧ G D = some (.lst (((List.range i).map fun k => (b + (k : Nat)) % n).map V.int))) ⟨same_up hD, upd_same⟩ ?_ ?_⟩
    · rintro i G hi ⟨s1, h1⟩
      refine ⟨rfl, _, rfl, _, rfl, _, _, rfl, rfl, .inl ⟨_, rfl, _, rfl, _, _, rfl, rfl, hn, ?_⟩⟩
      refine ⟨_, h1, ?_, fun bb o hb => ?_, ?_⟩
      · rw [List.length_map, List.length_map, List.length_range]
        exact small1000 (by omega)
      · rw [upd_ne (ne_of_none hb hD)]
        exact s1 bb o hb
      · rw [upd_same, Int.zero_add, List.range_succ, List.map_append, List.map_append]
        rfl
    · rintro G ⟨s1, h1⟩
      exact q D G s1 hD h1
theorem scMay : FnScope ["_law_size", "_law_way", "_law_begin", "_law_done", "_law_spot", "_law_target", "_law_seen_pages"] psM (defScope sMay) := ⟨rfl, rfl, rfl, by decide +kernel, rfl, by decide +kernel, by decide +kernel⟩
theorem ok_may {f : Addr} {fd : FuncData} (F : Fun K "_law_may" "_law_may" sMay f fd) (DV : Df P w K mg base 1 "_law_visited" ["_law_size", "_law_begin", "_law_done"] spVisited) : FnOk P w K mg base CX0 2 f fd psM spMay := by
  obtain ⟨gV, fdV, GV, mV, kV, bV⟩ := DV.ex
  refine F.ok scMay (fun vs H Q E h => ?_) (fun cdv A outer s H vs Q E hr h => ?_)
  · obtain ⟨n, b, d, own, t, x, rfl, _⟩ := h
    rfl
  · obtain ⟨n, b, d, own, t, x, rfl, hn, d0, d1, q⟩ := h
    refine ⟨_, pss_cons (ps_if (pt_cmpR op_eq (pv 5) (pv 4) (nomark _)) (pss_one (ps_ret pe_bl)) pss_nil)
      (pss_cons (ps_set (i := 6) scMay.nd rfl (Or.inl rfl) (pe_call GV hr (by rfl) mV kV bV .nil pass0 (pa_cons (pv 0) (pa_cons (pv 2) (pa_cons (pv 3) pa_nil)))))
      (pss_one (ps_ret (pe_or (pe_cmpR op_ne (pv 1) pe_str (nomark _)) (pe_or (pe_cmpR op_in_seq (pv 4) (pv 6) (by rfl)) (pe_one (pe_cmpR op_notIn_seq (pv 5) (pv 6) (by rfl)))))))), ?_⟩
    refine ⟨_, rfl, _, rfl, rfl, _, rfl, ?_⟩; skip
    rw [intV_eq]
    by_cases e1 : t = own
    · rw [decide_eq_true e1]
      have := q H (Same.refl _)
      unfold mayB at this
      rw [if_pos e1] at this
      exact iteT this
    rw [decide_eq_false e1]
    refine iteF ?_
    refine ⟨_, rfl, _, rfl, _, rfl, n, b, d, rfl, hn, d0, d1, fun p G s1 np hp => ?_⟩
    have q2 := q G s1
    unfold mayB at q2
    rw [if_neg e1] at q2
    refine ⟨_, rfl, rfl, _, rfl, ?_⟩; skip
    rw [strV_eq]
    by_cases e2 : x = "barred"
    · rw [decide_eq_true e2] at q2 ⊢
      refine iteF ⟨_, rfl, _, rfl, p, _, rfl, .inl (SqL.of hp), rfl, flat_ints _, _, rfl, ?_⟩
      rw [show (if false = true then !inV (V.int own) ((vis n b d).map V.int) else inV (V.int own) ((vis n b d).map V.int)) = decide (own ∈ vis n b d) from inV_ints _ _]
      by_cases e3 : own ∈ vis n b d
      · rw [decide_eq_true e3] at q2 ⊢
        exact iteT q2
      · rw [decide_eq_false e3] at q2 ⊢
        refine iteF ⟨_, rfl, _, rfl, p, _, rfl, .inl (SqL.of hp), rfl, flat_ints _, ?_⟩
        rw [show (if true = true then !inV (V.int t) ((vis n b d).map V.int) else inV (V.int t) ((vis n b d).map V.int)) = !decide (t ∈ vis n b d) from congrArg Bool.not (inV_ints _ _)]
        exact q2
    · rw [decide_eq_false e2] at q2 ⊢
      exact iteT q2
end
end Pl

namespace Pl
open L2 PySem PySem.Spec PyProof.Rows
/-! ### moves that are let -/
def okStep (n : Int) (x : Str) (b last own : Int) (p : Int × Int) : Bool := (decide (last ≤ p.1) && decide (p.1 < n - 1)) && (decide (0 ≤ p.2) && decide (p.2 < n)) && mayB n x b (p.1 + 1) own p.2
def allLet (n : Int) (x : Str) (b : Int) : Int → Int → List (Int × Int) → Bool
  | _, _, [] => true
  | last, own, p :: ps => okStep n x b last own p && allLet n x b p.1 p.2 ps
def mo (p : Int × Int) : Mo := .pr (.int p.1) (.int p.2)
theorem bar_tab : ((List.range 7).all fun n => (List.range 6).all fun b => (List.range 7).all fun d => (List.range 6).all fun y => !(decide (1 ≤ n) && decide (b < n) && decide (y < n) && decide (d ≤ n)) || (decide ((y : Int) ∈ vis n b d) == decide (((y : Int) - b) % n < d))) = true := by decide +kernel
theorem mem_vis {n b d y : Int} (n0 : 1 ≤ n) (n1 : n ≤ 6) (b0 : 0 ≤ b) (b1 : b < n) (y0 : 0 ≤ y) (y1 : y < n) (d0 : 0 ≤ d) (d1 : d ≤ n) : decide (y ∈ vis n b d) = decide ((y - b) % n < d) := by
  obtain ⟨n, rfl⟩ : ∃ k : Nat, n = k := ⟨n.toNat, by omega⟩
  obtain ⟨b, rfl⟩ : ∃ k : Nat, b = k := ⟨b.toNat, by omega⟩
  obtain ⟨d, rfl⟩ : ∃ k : Nat, d = k := ⟨d.toNat, by omega⟩
  obtain ⟨y, rfl⟩ : ∃ k : Nat, y = k := ⟨y.toNat, by omega⟩
  have h1 := List.all_eq_true.mp bar_tab n (List.mem_range.mpr (by omega))
  have h2 := List.all_eq_true.mp h1 b (List.mem_range.mpr (by omega))
  have h3 := List.all_eq_true.mp h2 d (List.mem_range.mpr (by omega))
  have h4 := List.all_eq_true.mp h3 y (List.mem_range.mpr (by omega))
  have c1 : 1 ≤ n := by omega
  have c2 : b < n := by omega
  have c3 : y < n := by omega
  have c4 : d ≤ n := by omega
  simp only [c1, c2, c3, c4, decide_true, Bool.and_self, Bool.not_true, Bool.false_or] at h4
  exact eq_of_beq h4
theorem step_eq {n : Int} {x : Str} {b last own : Int} {p : Int × Int} (n0 : 1 ≤ n) (n1 : n ≤ 6) (b0 : 0 ≤ b) (b1 : b < n) (o0 : 0 ≤ own) (o1 : own < n) (l0 : 0 ≤ last) : okStep n x b last own p = !wrong n x b last own (mo p) := by
  obtain ⟨u, t⟩ := p
  show ((decide (last ≤ u) && decide (u < n - 1)) && (decide (0 ≤ t) && decide (t < n)) && mayB n x b (u + 1) own t) = !(!(within (.int u) last (n - 2)) || (!(within (.int t) 0 (n - 1)) || decide (t = own)) || (decide (x = "barred") && isBar n b (u + 1) own t))
  have e1 : within (.int u) last (n - 2) = (decide (last ≤ u) && decide (u < n - 1)) := by
    show (decide (last ≤ u) && decide (u ≤ n - 2)) = _
    congr 1
    exact decide_eq_decide.mpr ⟨fun h => by omega, fun h => by omega⟩
  have e2 : within (.int t) 0 (n - 1) = (decide (0 ≤ t) && decide (t < n)) := by
    show (decide (0 ≤ t) && decide (t ≤ n - 1)) = _
    congr 1
    exact decide_eq_decide.mpr ⟨fun h => by omega, fun h => by omega⟩
  rw [e1, e2]
  cases h1 : (decide (last ≤ u) && decide (u < n - 1)) with
  | false => simp
  | true =>
  cases h2 : (decide (0 ≤ t) && decide (t < n)) with
  | false => simp
  | true =>
  rw [Bool.and_eq_true, decide_eq_true_eq, decide_eq_true_eq] at h1 h2
  unfold mayB
  by_cases h3 : t = own
  · rw [if_pos h3, decide_eq_true h3]
    simp
  rw [if_neg h3, decide_eq_false h3]
  have m1 := mem_vis (n := n) (b := b) (d := u + 1) (y := own) n0 n1 b0 b1 o0 o1 (by omega) (by omega)
  have m2 := mem_vis (n := n) (b := b) (d := u + 1) (y := t) n0 n1 b0 b1 h2.1 h2.2 (by omega) (by omega)
  rw [m1, m2]
  unfold isBar
  by_cases h4 : x = "barred"
  · rw [decide_eq_true h4]
    by_cases h5 : (own - b) % n < u + 1
    · have h6 : ¬ u + 1 ≤ (own - b) % n := by omega
      rw [decide_eq_true h5, decide_eq_false h6]
      simp
    · have h6 : u + 1 ≤ (own - b) % n := by omega
      rw [decide_eq_false h5, decide_eq_true h6]
      cases decide ((t - b) % n < u + 1) <;> rfl
  · rw [decide_eq_false h4]
    simp
theorem firstW_shift {n : Int} {x : Str} {b : Int} : ∀ (ms : List Mo) (last own : Int) (i : Nat), firstW n x b last own ms i = (firstW n x b last own ms 0).map (· + i)
  | [], _, _, _ => rfl
  | m :: ms, last, own, i => by
    show (if wrong n x b last own m = true then some i else firstW n x b (nxL last m) (nxO own m) ms (i + 1)) = (if wrong n x b last own m = true then some 0 else firstW n x b (nxL last m) (nxO own m) ms (0 + 1)).map (· + i)
    by_cases e : wrong n x b last own m = true
    · rw [if_pos e, if_pos e]
      simp
    · rw [if_neg e, if_neg e, firstW_shift ms _ _ (i + 1), firstW_shift ms _ _ (0 + 1), Option.map_map]
      congr 1
      funext k
      show k + (i + 1) = k + (0 + 1) + i
      omega
theorem firstW_lt {n : Int} {x : Str} {b : Int} : ∀ (ms : List Mo) (last own : Int) (j : Nat), firstW n x b last own ms 0 = some j → j < ms.length
  | [], _, _, _, h => by cases h
  | m :: ms, last, own, j, h => by
    have h' : (if wrong n x b last own m = true then some 0 else firstW n x b (nxL last m) (nxO own m) ms (0 + 1)) = some j := h
    by_cases e : wrong n x b last own m = true
    · rw [if_pos e] at h'
      cases h'
      exact Nat.succ_pos _
    · rw [if_neg e, firstW_shift] at h'
      cases e2 : firstW n x b (nxL last m) (nxO own m) ms 0 with
      | none =>
        rw [e2] at h'
        cases h'
      | some k =>
        rw [e2] at h'
        have h3 := firstW_lt ms _ _ k e2
        have h4 : k + (0 + 1) = j := Option.some.inj h'
        rw [List.length_cons]
        omega
/-- up to k all are let, just if the first wrong one stands at k or behind it -/
theorem let_take {n : Int} {x : Str} {b : Int} (n0 : 1 ≤ n) (n1 : n ≤ 6) (b0 : 0 ≤ b) (b1 : b < n) : ∀ (ps : List (Int × Int)) (last own : Int) (k : Nat), 0 ≤ own → own < n → 0 ≤ last → k ≤ ps.length →
    allLet n x b last own (ps.take k) = (match firstW n x b last own (ps.map mo) 0 with
      | none => true
      | some j => decide (k ≤ j))
  | [], last, own, k, _, _, _, hk => by
    have : k = 0 := by simpa using hk
    subst this
    rfl
  | p :: ps, last, own, 0, _, _, _, _ => by
    show true = _
    cases firstW n x b last own ((p :: ps).map mo) 0 with
    | none => rfl
    | some j => simp
  | p :: ps, last, own, k + 1, o0, o1, l0, hk => by
    show (okStep n x b last own p && allLet n x b p.1 p.2 (ps.take k)) = (match (if wrong n x b last own (mo p) = true then some 0 else firstW n x b (nxL last (mo p)) (nxO own (mo p)) (ps.map mo) (0 + 1)) with
      | none => true
      | some j => decide (k + 1 ≤ j))
    rw [step_eq n0 n1 b0 b1 o0 o1 l0]
    by_cases e : wrong n x b last own (mo p) = true
    · rw [if_pos e, e]
      simp
    · have ef : wrong n x b last own (mo p) = false := by simpa using e
      rw [if_neg e, ef]
      have ok := step_eq (x := x) (p := p) n0 n1 b0 b1 o0 o1 l0
      rw [ef] at ok
      have ok' : ((decide (last ≤ p.1) && decide (p.1 < n - 1)) && (decide (0 ≤ p.2) && decide (p.2 < n)) && mayB n x b (p.1 + 1) own p.2) = true := ok
      simp only [Bool.and_eq_true, decide_eq_true_eq] at ok'
      rw [let_take n0 n1 b0 b1 ps p.1 p.2 k ok'.1.2.1 ok'.1.2.2 (by omega) (by simpa using hk)]
      show (true && _) = _
      rw [Bool.true_and]
      show _ = (match firstW n x b p.1 p.2 (ps.map mo) (0 + 1) with
      | none => true
      | some j => decide (k + 1 ≤ j))
      rw [firstW_shift (ps.map mo) p.1 p.2 (0 + 1)]
      cases firstW n x b p.1 p.2 (ps.map mo) 0 with
      | none => rfl
      | some j =>
        show decide (k ≤ j) = decide (k + 1 ≤ j + (0 + 1))
        exact decide_eq_decide.mpr ⟨fun h => by omega, fun h => by omega⟩
abbrev psA : List Str := ["_law_size", "_law_way", "_law_begin", "_law_spot", "_law_steps"]
structure Rw (n b s : Int) (x : Str) : Prop where
  n0 : 1 ≤ n
  n1 : n ≤ 6
  b0 : 0 ≤ b
  b1 : b < n
  s0 : 0 ≤ s
  s1 : s < n
  ok : okRule (some x) = true
def spAll : Sp := fun vs H Q _ => ∃ (n b s : Int) (x : Str) (a : Addr) (us : List V) (ps : List (Int × Int)), vs = [.int n, .str x, .int b, .int s, .ref a] ∧ Rw n b s x ∧ H a = some (.lst us) ∧ PrL H us ps ∧ us.length ≤ 100 ∧ ∀ H', Same H H' → Q (.bl (allLet n x b 0 s ps)) H'
def spLFirst : Sp := fun vs H Q _ => ∃ (n b s : Int) (x : Str) (a : Addr) (us : List V) (ps : List (Int × Int)), vs = [.int n, .str x, .int b, .int s, .ref a] ∧ Rw n b s x ∧ H a = some (.lst us) ∧ PrL H us ps ∧ us.length ≤ 100 ∧ ∀ H', Same H H' → Q (optV (firstW n x b 0 s (ps.map mo) 0)) H'
theorem PrL.take {H : Hp} : ∀ {vs : List V} {ps : List (Int × Int)} (k : Nat), PrL H vs ps → PrL H (vs.take k) (ps.take k)
  | _, _, 0, _ => by rw [List.take_zero, List.take_zero]; exact .nil
  | _, _, _ + 1, .nil => .nil
  | _, _, k + 1, .cons a t => .cons a (t.take k)
theorem cut_take (xs : List V) (k : Nat) (h : k ≤ xs.length) : cutV xs none (some (k : Int)) = xs.take k := by
  show (xs.drop (HT.sIx xs.length 0 none)).take (HT.sIx xs.length xs.length (some (k : Int)) - HT.sIx xs.length 0 none) = xs.take k
  rw [HT.sIx_nat, HT.sIx_none, List.drop_zero, Nat.sub_zero, Nat.min_eq_left h]
theorem noPart {σ : L2.St} {H : Hp} {Q : Option Int → Hp → Prop} (h : Q none H) : tNoPart σ H Q := h
section
variable {P : Program} {K : PySem.W.Frag} {w : World} {base : Heap} {mg : Str → Option Value}
theorem scAllLet : FnScope ["_law_size", "_law_way", "_law_begin", "_law_spot", "_law_steps", "_law_before", "_law_lies", "_law_moment", "_law_target"] psA (defScope sAllLet) := ⟨rfl, rfl, rfl, by decide +kernel, rfl, by decide +kernel, by decide +kernel⟩
theorem ok_all {f : Addr} {fd : FuncData} (F : Fun K "_law_all_let" "_law_all_let" sAllLet f fd) (DM : Df P w K mg base 2 "_law_may" psM spMay) : FnOk P w K mg base CX0 3 f fd psA spAll := by
  obtain ⟨gM, fdM, GM, mM, kM, bM⟩ := DM.ex
  refine F.ok scAllLet (fun vs H Q E h => ?_) (fun cdv A outer s H vs Q E hr h => ?_)
  · obtain ⟨n, b, s, x, a, us, ps, rfl, _⟩ := h
    rfl
  · obtain ⟨n, b, s, x, a, us, ps, rfl, R, ha, hp, lu, q⟩ := h
    refine ⟨_, pss_cons (ps_par (i := 5) (j := 6) (by rfl) scAllLet.nd rfl rfl (by decide) rfl rfl (pa_cons pe_int (pa_cons (pv 3) pa_nil)) (by rfl))
      (pss_cons (ps_for PassesOwn.never rfl (pi_list (pv 4)) (pg_tup rfl (pgs_cons (pg_name (i := 7) scAllLet.nd rfl (Or.inl rfl)) (pgs_cons (pg_name (i := 8) scAllLet.nd rfl (Or.inl rfl)) pgs_nil)))
        (pss_cons (ps_if (PW.pt (pw_or (pt_not (pt_chain op_le op_lt (pv 5) (pv 7) (pe_op op_sub (pv 0) pe_int))) (pw_or1 (pt_not (pt_chain op_le op_lt pe_int (pv 8) (pv 0)))))) (pss_one (ps_ret pe_bl)) pss_nil)
        (pss_cons (ps_if (pt_not (pt_val (pe_call GM hr (by rfl) mM kM bM .nil pass0 (pa_cons (pv 0) (pa_cons (pv 1) (pa_cons (pv 2) (pa_cons (pe_op op_add (pv 7) pe_int) (pa_cons (pv 6) (pa_cons (pv 8) pa_nil))))))))) (pss_one (ps_ret pe_bl)) pss_nil)
        (pss_one (ps_par (i := 5) (j := 6) (by rfl) scAllLet.nd rfl rfl (by decide) rfl rfl (pa_cons (pv 7) (pa_cons (pv 8) pa_nil)) (by rfl))))))
      (pss_one (ps_ret pe_bl))), ?_⟩
    have n0 := R.n0
    have n6 := R.n1
    refine ⟨_, rfl, _, _, rfl, _, rfl, a, rfl, ⟨_, SqL.of ha⟩, for_list (K := K) (a := a) (xs := us) (fun i σ G => ∃ last own x7 x8, σ = [some (.int n), some (.str x), some (.int b), some (.int s), some (.ref a), some (.int last), some (.int own), x7, x8] ∧ Same H G ∧ 0 ≤ last ∧ allLet n x b 0 s ps = allLet n x b last own (ps.drop i))
      ⟨0, s, _, _, rfl, Same.refl _, Int.le_refl _, rfl⟩ (fun i σ G _ h => by
        obtain ⟨_, _, _, _, _, s1, _⟩ := h
        exact SqL.of (s1 _ _ ha)) ?_ ?_⟩
    · rintro i y σ G hy ⟨last, own, x7, x8, rfl, s1, l0, e1⟩
      obtain ⟨p, hpi, a2, rfl, ha2⟩ := hp.at hy
      have ed : ps.drop i = p :: ps.drop (i + 1) := by
        obtain ⟨lt, rfl⟩ := List.getElem?_eq_some_iff.mp hpi
        exact List.drop_eq_getElem_cons lt
      have e2 : allLet n x b 0 s ps = (okStep n x b last own p && allLet n x b p.1 p.2 (ps.drop (i + 1))) := by
        rw [e1, ed]
        rfl
      have no : okStep n x b last own p = false → ∀ G', Same H G' → Q (.bl false) G' := fun e G' s' => by
        have := q G' s'
        rw [e2, e, Bool.false_and] at this
        exact this
      refine ⟨a2, _, rfl, SqT.of (s1 _ _ ha2), rfl, _, _, rfl, _, _, rfl, rfl, ?_⟩
      refine ⟨_, rfl, _, rfl, _, _, rfl, rfl, _, rfl, ?_⟩; skip
      by_cases h1 : ¬ last ≤ p.1
      · rw [decide_eq_false h1]
        exact iteF ⟨_, rfl, iteT (no (by unfold okStep; rw [decide_eq_false h1, Bool.false_and, Bool.false_and, Bool.false_and]) G s1)⟩
      have h1 := Decidable.not_not.mp h1
      rw [decide_eq_true h1]
      refine iteT ⟨_, rfl, _, _, rfl, rfl, _, _, rfl, rfl, _, rfl, ?_⟩
      by_cases h2 : ¬ p.1 < n - 1
      · rw [decide_eq_false h2]
        exact iteT (no (by unfold okStep; rw [decide_eq_false h2, Bool.and_false, Bool.false_and, Bool.false_and]) G s1)
      have h2 := Decidable.not_not.mp h2
      rw [decide_eq_true h2]
      refine iteF ⟨_, rfl, _, _, rfl, rfl, _, rfl, ?_⟩
      by_cases h3 : ¬ 0 ≤ p.2
      · rw [decide_eq_false h3]
        exact iteF ⟨_, rfl, iteT (no (by unfold okStep; rw [decide_eq_false h3, Bool.false_and, Bool.and_false, Bool.false_and]) G s1)⟩
      have h3 := Decidable.not_not.mp h3
      rw [decide_eq_true h3]
      refine iteT ⟨_, rfl, _, _, rfl, rfl, _, rfl, ?_⟩
      by_cases h4 : ¬ p.2 < n
      · rw [decide_eq_false h4]
        exact iteT (no (by unfold okStep; rw [decide_eq_false h4, Bool.and_false, Bool.and_false, Bool.false_and]) G s1)
      have h4 := Decidable.not_not.mp h4
      rw [decide_eq_true h4]
      refine iteF ?_
      refine ⟨_, rfl, _, rfl, _, rfl, _, rfl, _, _, rfl, rfl, _, rfl, _, rfl, n, b, p.1 + 1, own, p.2, x, rfl, by omega, by omega, by omega, fun G2 s2 => ⟨_, rfl, ?_⟩⟩
      cases h5 : mayB n x b (p.1 + 1) own p.2 with
      | false => exact iteT (no (by unfold okStep; rw [h5, Bool.and_false]) G2 (s1.trans s2))
      | true =>
        refine iteF ⟨_, rfl, _, rfl, _, _, rfl, p.1, p.2, _, _, rfl, s1.trans s2, by omega, ?_⟩
        rw [e2, show okStep n x b last own p = true from by unfold okStep; rw [decide_eq_true h1, decide_eq_true h2, decide_eq_true h3, decide_eq_true h4, h5]; rfl, Bool.true_and]
    · rintro σ G ⟨last, own, x7, x8, rfl, s1, l0, e1⟩
      rw [hp.len, List.drop_length] at e1
      have := q G s1
      rw [e1] at this
      exact this
theorem scLFirst : FnScope ["_law_size", "_law_way", "_law_begin", "_law_spot", "_law_steps", "_law_at"] psA (defScope sLFirst) := ⟨rfl, rfl, rfl, by decide +kernel, rfl, by decide +kernel, by decide +kernel⟩
theorem ok_lfirst {f : Addr} {fd : FuncData} (F : Fun K "_law_first_wrong" "_law_first_wrong" sLFirst f fd) (T : Cst mg) (DA : Df P w K mg base 3 "_law_all_let" psA spAll) : FnOk P w K mg base CX0 4 f fd psA spLFirst := by
  obtain ⟨gA, fdA, GA, mA, kA, bA⟩ := DA.ex
  refine F.ok scLFirst (fun vs H Q E h => ?_) (fun cdv A outer s H vs Q E hr h => ?_)
  · obtain ⟨n, b, s, x, a, us, ps, rfl, _⟩ := h
    rfl
  · obtain ⟨n, b, s, x, a, us, ps, rfl, R, ha, hp, lu, q⟩ := h
    refine ⟨_, pss_cons (ps_for PassesOwn.never rfl (pi_range1 rfl T.rng (pa_cons (pe_callB call_len_seq (by rfl) T.len PySem.boot_len (pa_cons (pv 4) pa_nil)) pa_nil)) (pg_name (i := 5) scLFirst.nd rfl (Or.inl rfl))
        (pss_one (ps_if (pt_not (pt_val (pe_call GA hr (by rfl) mA kA bA .nil pass0 (pa_cons (pv 0) (pa_cons (pv 1) (pa_cons (pv 2) (pa_cons (pv 3) (pa_cons (pe_slice sl_list (pv 4) po_none (po_some (pe_op op_add (pv 5) pe_int))) pa_nil)))))))) (pss_one (ps_ret (pv 5))) pss_nil)))
      (pss_one (ps_ret pe_non)), ?_⟩
    have lps := hp.len
    have tk := fun k (hk : k ≤ ps.length) => let_take (x := x) R.n0 R.n1 R.b0 R.b1 ps 0 s k R.s0 R.s1 (Int.le_refl _) hk
    refine ⟨_, rfl, a, _, rfl, .inl (SqL.of ha), (us.length : Nat), rfl, by omega, by omega, for_range (n := us.length) (fun i σ G => ∃ x5, σ = [some (.int n), some (.str x), some (.int b), some (.int s), some (.ref a), x5] ∧ Same H G ∧ ∀ j, firstW n x b 0 s (ps.map mo) 0 = some j → i ≤ j)
      ⟨_, rfl, Same.refl _, fun _ _ => Nat.zero_le _⟩ ?_ ?_⟩
    · rintro i σ G hi ⟨x5, rfl, s1, inv⟩
      refine ⟨_, rfl, _, rfl, _, rfl, _, rfl, _, rfl, noPart ?_⟩
      refine ⟨_, rfl, _, _, rfl, rfl, _, rfl, a, us, rfl, SqL.of (s1 _ _ ha), fun p2 np2 => ?_⟩
      have e1 : cutV us none (some (0 + (i : Int) + 1)) = us.take (i + 1) := by
        rw [show (0 + (i : Int) + 1) = ((i + 1 : Nat) : Int) from by omega]
        exact cut_take us (i + 1) (by omega)
      have s2 : Same G (upd G p2 (.lst (us.take (i + 1)))) := same_up np2
      have e2 := tk (i + 1) (by omega)
      refine ⟨n, b, s, x, p2, us.take (i + 1), ps.take (i + 1), rfl, R, ?_, ?_, ?_, fun G2 s3 => ⟨_, rfl, ?_⟩⟩
      · exact e1 ▸ upd_same
      · show PrL (upd G p2 (.lst (cutV us none (some (0 + (i : Int) + 1))))) _ _
        rw [e1]
        exact (hp.same (s1.trans s2)).take _
      · rw [List.length_take]
        omega
      · have s4 : Same H G2 := by
          refine s1.trans (Same.trans ?_ s3)
          exact same_up np2
        rw [e2]
        cases e3 : firstW n x b 0 s (ps.map mo) 0 with
        | none => exact iteF ⟨_, rfl, s4, fun j hj => (by cases hj)⟩
        | some j =>
          have h1 := inv j e3
          by_cases h2 : i + 1 ≤ j
          · show if (!decide (i + 1 ≤ j)) = true then _ else _
            rw [decide_eq_true h2]
            exact iteF ⟨_, rfl, s4, fun j' hj => by
              cases hj
              exact h2⟩
          · show if (!decide (i + 1 ≤ j)) = true then _ else _
            rw [decide_eq_false h2]
            refine iteT ⟨_, rfl, ?_⟩
            have := q G2 s4
            rw [e3] at this
            have e4 : j = i := by omega
            subst e4
            rw [Int.zero_add]
            exact this
    · rintro σ G ⟨x5, rfl, s1, inv⟩
      have := q G s1
      cases e : firstW n x b 0 s (ps.map mo) 0 with
      | none =>
        rw [e] at this
        exact this
      | some j =>
        have h1 := inv j e
        have h2 := tk ps.length (Nat.le_refl _)
        exact absurd (firstW_lt _ _ _ _ e) (by rw [List.length_map]; omega)
end
end Pl

namespace Pl
open L2 PySem PySem.Spec PyProof.Rows
theorem lay_ne (s : Int) (ps : List (Int × Int)) : ∀ k, lay s ps k ≠ []
  | 0 => by simp [lay]
  | k + 1 => fun h => by
    have h' : lay s ps k ++ ((ps.filter fun p => decide (p.1 = (k : Int))).map fun p => p.2) = [] := h
    exact lay_ne s ps k (List.append_eq_nil_iff.mp h').1
theorem last_split {ys : List Int} (h : ys ≠ []) : ∃ zs, ys = zs ++ [lastI ys] := by
  refine ⟨ys.dropLast, ?_⟩
  have e : lastI ys = ys.getLast h := by
    unfold lastI
    rw [List.getLastD_eq_getLast?, List.getLast?_eq_some_getLast h]
    rfl
  rw [e]
  exact (List.dropLast_concat_getLast h).symm
theorem last_mem {ys : List Int} (h : ys ≠ []) : lastI ys ∈ ys := by
  obtain ⟨zs, e⟩ := last_split h
  rw [e]
  rw [lastI_app]
  simp
theorem cut_last {ys : List Int} (h : ys ≠ []) : cutV (ys.map V.int) (some (-1)) none = [V.int (lastI ys)] := by
  obtain ⟨zs, e⟩ := last_split h
  have len : (ys.map V.int).length = zs.length + 1 := by
    rw [List.length_map, e]
    simp
  show ((ys.map V.int).drop (HT.sIx (ys.map V.int).length 0 (some (-1)))).take (HT.sIx (ys.map V.int).length (ys.map V.int).length none - HT.sIx (ys.map V.int).length 0 (some (-1))) = _
  rw [HT.sIx_none, len]
  have e2 : HT.sIx (zs.length + 1) 0 (some (-1)) = zs.length := by
    show (if (-1 : Int) < 0 then ((-1 : Int) + ((zs.length + 1 : Nat) : Int)).toNat else min (-1 : Int).toNat (zs.length + 1)) = _
    rw [if_pos (by decide)]
    omega
  rw [e2]
  have e3 : (ys.map V.int).drop zs.length = [V.int (lastI ys)] := by
    have e4 : ys.map V.int = zs.map V.int ++ [V.int (lastI ys)] := by
      have := congrArg (List.map V.int) e
      rw [List.map_append] at this
      exact this
    have e5 := List.drop_left (l₁ := zs.map V.int) (l₂ := [V.int (lastI ys)])
    rw [List.length_map] at e5
    rw [e4]
    exact e5
  rw [e3, show zs.length + 1 - zs.length = 1 from by omega]
  rfl
/-- where the law looks for the page -/
def thereL (x : Str) (l : List Int) : List Int := if x = "left" then l else [lastI l]
theorem met_there {n : Int} {x : Str} {b s : Int} {ps : List (Int × Int)} {k : Nat} : decide ((b + k) % n ∈ thereL x (lay s ps k)) = metB n x b s ps k := by
  unfold thereL metB
  by_cases e : x = "left"
  · rw [if_pos e, decide_eq_true e, Bool.true_and]
    by_cases h : (b + k) % n ∈ lay s ps k
    · rw [decide_eq_true h, Bool.or_true]
    · rw [decide_eq_false h, Bool.or_false, decide_eq_false fun z => h (by rw [z]; exact last_mem (lay_ne s ps k))]
  · rw [if_neg e, decide_eq_false e, Bool.false_and, Bool.or_false]
    exact decide_eq_decide.mpr List.mem_singleton
def spLSights : Sp := fun vs H Q _ => ∃ (n b s : Int) (x : Str) (a : Addr) (us : List V) (ps : List (Int × Int)), vs = [.int n, .str x, .int b, .int s, .ref a] ∧ Rw n b s x ∧ H a = some (.lst us) ∧ PrL H us ps ∧ us.length ≤ 100 ∧
  ∀ p H' fs, Same H H' → H p = none → H' p = some (.lst (List.map V.int fs)) → fs.length = countM n x b s ps n.toNat → Q (.ref p) H'
section
variable {P : Program} {K : PySem.W.Frag} {w : World} {base : Heap} {mg : Str → Option Value}
abbrev nLS : List Str := ["_law_size", "_law_way", "_law_begin", "_law_spot", "_law_steps", "_law_found", "_law_lay", "_law_visit", "_law_there", "_law_moment", "_law_target"]
theorem scLS : FnScope nLS psA (defScope sLSights) := ⟨rfl, rfl, rfl, by decide +kernel, rfl, by decide +kernel, by decide +kernel⟩
theorem ok_lsights {f : Addr} {fd : FuncData} (F : Fun K "_law_sights" "_law_sights" sLSights f fd) (T : Cst mg) : FnOk P w K mg base CX0 1 f fd psA spLSights := by
  refine F.ok scLS (fun vs H Q E h => ?_) (fun cdv A outer s H vs Q E hr h => ?_)
  · obtain ⟨n, b, s, x, a, us, ps, rfl, _⟩ := h
    rfl
  · obtain ⟨n, b, s, x, a, us, ps, rfl, R, ha, hp, lu, q⟩ := h
    have n0 := R.n0
    have n6 := R.n1
    have cat : ∃ tc, PSs (cxOf CX0 P w K mg base nLS "_law_sights" (defScope sLSights) f cdv A outer ‹Shared› H E).nox (match defBody sLSights with
        | [_, .For _ _ [_, _, r2] _ _, _] => [r2]
        | _ => []) tc ∧
        ∀ (D : Ends) (G : Hp) (k : Nat) (F0 L B : Addr) (fs : List Int) (x9 x10 : Option V), Same H G → F0 ≠ L → G F0 = some (.lst (List.map V.int fs)) → G L = some (.lst ((lay s ps k).map V.int)) → k ≤ 5 →
          (∀ G' L' y9 y10, Same H G' → F0 ≠ L' → G' F0 = some (.lst (List.map V.int fs)) → G' L' = some (.lst ((lay s ps (k + 1)).map V.int)) → D.nx [some (.int n), some (.str x), some (.int b), some (.int s), some (.ref a), some (.ref F0), some (.ref L'), some (.int (k : Nat)), some (.ref B), y9, y10] G') →
          tc D [some (.int n), some (.str x), some (.int b), some (.int s), some (.ref a), some (.ref F0), some (.ref L), some (.int (k : Nat)), some (.ref B), x9, x10] G := by
      refine ⟨_, pss_one (ps_set (i := 6) scLS.nd rfl (Or.inl rfl) (pe_op op_cat (pv 6) (pe_lc (own := [("_law_moment", 9), ("_law_target", 10)]) (g := gTup K 2 (gCons (gName 9) (gCons (gName 10) gNil))) (tt := _) rfl scLS.nd (pi_list (pv 4)) (blkOk_by (own := [("_law_moment", 9), ("_law_target", 10)]) (N := nLS) (sc := defScope sLSights) (by decide +kernel))
          (fun _ _ _ _ _ => pg_tup rfl (pgs_cons (pg_name (i := 9) scLS.nd rfl (Or.inl rfl)) (pgs_cons (pg_name (i := 10) scLS.nd rfl (Or.inl rfl)) pgs_nil))) (fun _ _ _ _ _ => pts_one (pt_cmpR op_eq (pv 9) (pv 7) (nomark _))) (fun _ _ _ _ _ => pv 10)))), ?_⟩
      intro D G k F0 L B fs x9 x10 s1 nFL hF hL hk next
      have fl : ∀ i, ((ps.take i).filter fun p => decide (p.1 = (k : Int))).length ≤ 100 := fun i => by
        have h2 : ((ps.take i).filter fun p => decide (p.1 = (k : Int))).length ≤ (ps.take i).length := List.length_filter_le _ _
        have h3 : (ps.take i).length ≤ ps.length := by
          rw [List.length_take]
          exact Nat.min_le_right _ _
        have := hp.len
        omega
      refine ⟨_, rfl, _, rfl, a, rfl, ⟨_, SqL.of (s1 _ _ ha)⟩, fun D0 hD0 => lc_list (K := K) (a := a) (xs := us) (fun i G' => Same G G' ∧ G' D0 = some (.lst ((((ps.take i).filter fun p => decide (p.1 = (k : Int))).map fun p => p.2).map V.int)))
        ⟨same_up hD0, upd_same⟩ (fun i G' _ h => SqL.of (h.1 _ _ (s1 _ _ ha))) ?_ ?_⟩
      · rintro i y G' hy ⟨s2, hD⟩
        obtain ⟨p, hpi, a2, rfl, ha2⟩ := hp.at hy
        refine ⟨a2, _, rfl, SqT.of (s2 _ _ (s1 _ _ ha2)), rfl, _, _, rfl, _, _, rfl, rfl, rfl, ?_⟩
        refine ⟨_, rfl, _, rfl, rfl, _, rfl, ?_⟩; skip
        rw [intV_eq]
        by_cases e : p.1 = (k : Int)
        · rw [decide_eq_true e]
          refine iteT ⟨_, rfl, _, hD, ?_, fun bb o hb => ?_, ?_⟩
          · rw [List.length_map, List.length_map]
            have := fl i
            exact small1000 (by omega)
          · rw [upd_ne (ne_of_none hb hD0)]
            exact s2 _ _ hb
          · rw [upd_same, takeS hpi, List.filter_append, List.filter_cons, if_pos (decide_eq_true e), List.filter_nil, List.map_append, List.map_append]
            rfl
        · rw [decide_eq_false e]
          refine iteF ⟨s2, ?_⟩
          rw [takeS hpi, List.filter_append, List.filter_cons, if_neg (by rw [decide_eq_false e]; decide), List.filter_nil, List.append_nil]
          exact hD
      · rintro G' ⟨s2, hD⟩
        rw [hp.len, List.take_length] at hD
        have ll := lay_len s ps k
        have h4 : k * ps.length ≤ 5 * 100 := Nat.mul_le_mul hk (by have := hp.len; omega)
        refine ⟨L, D0, _, _, rfl, rfl, s2 _ _ hL, hD, ?_, fun L' hL' => next _ L' _ _ (s1.trans (s2.trans (same_up hL'))) (ne_of_none (s2 _ _ hF) hL') (same_up hL' _ _ (s2 _ _ hF)) ?_⟩
        · have h5 := fl ps.length
          rw [List.take_length] at h5
          rw [List.length_map, List.length_map, List.length_map]
          exact Nat.le_of_lt (small1000 (by omega))
        · refine upd_same.trans ?_
          exact congrArg (fun z => some (HO.lst z)) (List.map_append (f := V.int)).symm
    obtain ⟨tc, hc, rdc⟩ := cat
    have rest : ∃ tr, PSs (cxOf CX0 P w K mg base nLS "_law_sights" (defScope sLSights) f cdv A outer ‹Shared› H E).nox (match defBody sLSights with
        | [_, .For _ _ [_, r1, r2] _ _, _] => [r1, r2]
        | _ => []) tr ∧
        ∀ (D : Ends) (G : Hp) (k : Nat) (F0 L B : Addr) (fs : List Int) (x9 x10 : Option V), Same H G → H F0 = none → F0 ≠ L → G F0 = some (.lst (List.map V.int fs)) → G L = some (.lst ((lay s ps k).map V.int)) → G B = some (.lst ((thereL x (lay s ps k)).map V.int)) → k ≤ 5 → fs.length ≤ k →
          (∀ G' L' fs' y9 y10, Same H G' → F0 ≠ L' → G' F0 = some (.lst (List.map V.int fs')) → fs'.length = fs.length + (if metB n x b s ps k = true then 1 else 0) → G' L' = some (.lst ((lay s ps (k + 1)).map V.int)) → D.nx [some (.int n), some (.str x), some (.int b), some (.int s), some (.ref a), some (.ref F0), some (.ref L'), some (.int (k : Nat)), some (.ref B), y9, y10] G') →
          tr D [some (.int n), some (.str x), some (.int b), some (.int s), some (.ref a), some (.ref F0), some (.ref L), some (.int (k : Nat)), some (.ref B), x9, x10] G := by
      refine ⟨_, pss_cons (ps_if (pt_cmpR op_in_seq (pe_op op_mod (pe_callTy call_int1 (by rfl) T.tint (by decide +kernel) (pa_cons (pe_op op_add (pv 2) (pv 7)) pa_nil)) (pv 0)) (pv 8) (by rfl)) (pss_one (ps_expr (pe_bm PySem.F.plainAttrs_list PySem.F.slot_list_append PySem.F.type_list_append mt_append (pv 5) (pa_cons (pv 7) pa_nil)))) pss_nil) hc, ?_⟩
      intro D G k F0 L B fs x9 x10 s1 nF nFL hF hL hB hk lf next
      refine ⟨_, rfl, _, rfl, _, _, rfl, rfl, .inl ⟨_, rfl, _, rfl, _, _, rfl, rfl, by omega, ?_⟩⟩
      refine ⟨_, rfl, B, _, rfl, .inl (SqL.of hB), rfl, flat_ints _, _, rfl, ?_⟩
      rw [show (if false = true then !inV (V.int ((b + k) % n)) ((thereL x (lay s ps k)).map V.int) else inV (V.int ((b + k) % n)) ((thereL x (lay s ps k)).map V.int)) = metB n x b s ps k from (inV_ints _ _).trans met_there]
      cases e : metB n x b s ps k with
      | true =>
        refine iteT ⟨_, rfl, .inl ⟨rfl, _, SqL.of hF⟩, _, rfl, F0, _, _, rfl, rfl, hF, ?_, ?_⟩
        · rw [List.length_map]
          exact small1000 (by omega)
        · refine rdc _ _ k F0 L B (fs ++ [(k : Int)]) _ _ (fun bb o hb => ?_) nFL ?_ ?_ hk fun G' L' y9 y10 a1 a2 a3 a4 => next G' L' (fs ++ [(k : Int)]) y9 y10 a1 a2 a3 ?_ a4
          · rw [upd_ne (ne_of_none hb nF)]
            exact s1 _ _ hb
          · refine upd_same.trans ?_
            exact congrArg (fun z => some (HO.lst z)) (List.map_append (f := V.int) (l₂ := [(k : Int)])).symm
          · rw [upd_ne (Ne.symm nFL)]
            exact hL
          · rw [e, List.length_append]
            rfl
      | false =>
        exact iteF (rdc _ _ k F0 L B fs _ _ s1 nFL hF hL hk fun G' L' y9 y10 a1 a2 a3 a4 => next G' L' fs y9 y10 a1 a2 a3 (by rw [e]; rfl) a4)
    obtain ⟨tr, hrs, rd⟩ := rest
    refine ⟨_, pss_cons (ps_par (i := 5) (j := 6) (by rfl) scLS.nd rfl rfl (by decide) rfl rfl (pa_cons (pe_lst pa_nil) (pa_cons (pe_lst (pa_cons (pv 3) pa_nil)) pa_nil)) (by rfl))
      (pss_cons (ps_for PassesOwn.never rfl (pi_range1 rfl T.rng (pa_cons (pv 0) pa_nil)) (pg_name (i := 7) scLS.nd rfl (Or.inr rfl))
        (pss_cons (ps_set (i := 8) scLS.nd rfl (Or.inl rfl) (pe_ifExp (pt_cmpR op_eq (pv 1) pe_str (nomark _)) (pv 6) (pe_slice sl_list (pv 6) (po_some (pe_un un_neg pe_int)) po_none))) hrs))
      (pss_one (ps_ret (pv 5)))), ?_⟩
    refine ⟨by show 0 ≤ sizeLine; decide, fun F0 hF0 => ⟨_, rfl, by show 1 ≤ sizeLine; decide, fun L0 hL0 => ⟨_, _, rfl, ?_⟩⟩⟩
    have s0 : Same H (upd (upd H F0 (.lst [])) L0 (.lst [.int s])) := (same_up hF0).trans (same_up hL0)
    refine ⟨_, rfl, n, rfl, by omega, by omega, for_range (n := n.toNat) (fun k σ G => ∃ L fs x7 x8 x9 x10, σ = [some (.int n), some (.str x), some (.int b), some (.int s), some (.ref a), some (.ref F0), some (.ref L), x7, x8, x9, x10] ∧ Same H G ∧ F0 ≠ L ∧ G F0 = some (.lst (List.map V.int fs)) ∧ fs.length = countM n x b s ps k ∧ fs.length ≤ k ∧ G L = some (.lst ((lay s ps k).map V.int)))
      ⟨L0, [], _, _, _, _, rfl, s0, ?_, ?_, rfl, Nat.le_refl _, upd_same⟩ ?_ ?_⟩
    · exact ne_of_none upd_same hL0
    · exact same_up hL0 _ _ upd_same
    · rintro k σ G hk ⟨L, fs, x7, x8, x9, x10, rfl, s1, nFL, hF, cnt, lfs, hL⟩
      have k5 : k ≤ 5 := by omega
      refine ⟨_, rfl, rfl, _, rfl, ?_⟩; skip
      rw [strV_eq, Int.zero_add]
      by_cases e : x = "left"
      · rw [decide_eq_true e]
        refine iteT ⟨_, rfl, rd _ G k F0 L L fs _ _ s1 hF0 nFL hF hL (by unfold thereL; rw [if_pos e]; exact hL) k5 lfs fun G' L' fs' y9 y10 a1 a2 a3 a4 a5 => ?_⟩
        have hc : countM n x b s ps (k + 1) = countM n x b s ps k + (if metB n x b s ps k = true then 1 else 0) := rfl
        exact ⟨L', fs', some (.int (k : Nat)), some (.ref L), y9, y10, rfl, a1, a2, a3, by rw [a4, hc, cnt], by rw [a4]; split <;> omega, a5⟩
      · rw [decide_eq_false e]
        refine iteF ⟨_, rfl, _, rfl, _, rfl, noPart ⟨L, _, rfl, SqL.of hL, fun B hB => ?_⟩⟩
        refine rd _ _ k F0 L B fs _ _ (s1.trans (same_up hB)) hF0 nFL (same_up hB _ _ hF) (same_up hB _ _ hL) ?_ k5 lfs fun G' L' fs' y9 y10 a1 a2 a3 a4 a5 => ?_
        · refine upd_same.trans ?_
          rw [show cutV ((lay s ps k).map V.int) (some (-1)) none = [V.int (lastI (lay s ps k))] from cut_last (lay_ne s ps k)]
          unfold thereL
          rw [if_neg e]
          rfl
        · have hc : countM n x b s ps (k + 1) = countM n x b s ps k + (if metB n x b s ps k = true then 1 else 0) := rfl
          exact ⟨L', fs', some (.int (k : Nat)), some (.ref B), y9, y10, rfl, a1, a2, a3, by rw [a4, hc, cnt], by rw [a4]; split <;> omega, a5⟩
    · rintro σ G ⟨L, fs, x7, x8, x9, x10, rfl, s1, nFL, hF, cnt, lfs, hL⟩
      exact ⟨_, rfl, q F0 G fs s1 hF0 hF cnt⟩
end
end Pl

namespace Pl
open L2 PySem PySem.Spec PyProof.Rows
theorem PrL.but {z : Addr} {G F : Hp} (b : But z G F) (s : Src z G) : ∀ {us : List V} {ps : List (Int × Int)}, PrL G us ps → PrL F us ps
  | _, _, .nil => .nil
  | _, _, .cons ⟨a, e, h⟩ t => .cons ⟨a, e, by
    obtain ⟨x, y, hz, _⟩ := s
    exact b _ _ (fun q => by rw [q, hz] at h; cases h) trivial h⟩ (PrL.but b s t)
theorem PrL.lst {p : Addr} {G : Hp} {xs ys : List V} (hp : G p = some (.lst xs)) : ∀ {us : List V} {ps : List (Int × Int)}, PrL G us ps → PrL (upd G p (.lst ys)) us ps
  | _, _, .nil => .nil
  | _, _, .cons ⟨a, e, h⟩ t => .cons ⟨a, e, by
    rw [upd_ne (fun q => by rw [q, hp] at h; cases h)]
    exact h⟩ (PrL.lst hp t)
theorem Src.same {z : Addr} {H G : Hp} (h : Src z H) (e : Same H G) : Src z G := by
  obtain ⟨x, y, hz, r⟩ := h
  exact ⟨x, y, e _ _ hz, r⟩
abbrev psD : List Str := ["_law_source", "_law_size", "_law_way", "_law_begin", "_law_spot", "_law_top"]
abbrev nD : List Str := ["_law_source", "_law_size", "_law_way", "_law_begin", "_law_spot", "_law_top", "_law_found", "_law_before", "_law_lies", "_law_turn", "_law_moment", "_law_target", "_law_is_let_here"]
def spDrawn : Sp := fun vs H Q _ => ∃ (z : Addr) (n b s : Int) (x : Str), vs = [.ref z, .int n, .str x, .int b, .int s, .int 8] ∧ Src z H ∧ Rw n b s x ∧ ∀ p H' us ps, But z H H' → Src z H' → H p = none → p ≠ z → H' p = some (.lst us) → PrL H' us ps → us.length ≤ 8 → Q (.ref p) H'
section
variable {P : Program} {K : PySem.W.Frag} {w : World} {base : Heap} {mg : Str → Option Value}
theorem scDrawn : FnScope nD psD (defScope sDrawn) := ⟨rfl, rfl, rfl, by decide +kernel, rfl, by decide +kernel, by decide +kernel⟩
theorem ok_drawn {f : Addr} {fd : FuncData} (F : Fun K "_law_drawn_moves" "_law_drawn_moves" sDrawn f fd) (T : Cst mg) (DT : Df P w K mg base 1 "_law_take" ["_law_source", "_law_top"] spTake) (DM : Df P w K mg base 2 "_law_may" psM spMay) : FnOk P w K mg base CX0 3 f fd psD spDrawn := by
  obtain ⟨gT, fdT, GT, mT, kT, bT⟩ := DT.ex
  obtain ⟨gM, fdM, GM, mM, kM, bM⟩ := DM.ex
  refine F.ok scDrawn (fun vs H Q E h => ?_) (fun cdv A outer s H vs Q E hr h => ?_)
  · obtain ⟨z, n, b, s, x, rfl, _⟩ := h
    rfl
  · obtain ⟨z, n, b, s, x, rfl, hz, R, q⟩ := h
    have n0 := R.n0
    have n6 := R.n1
    obtain ⟨oz, hoz⟩ := hz.some
    have last : ∃ tl, PSs (cxOf CX0 P w K mg base nD "_law_drawn_moves" (defScope sDrawn) f cdv A outer ‹Shared› H E).nox (match defBody sDrawn with
        | [_, .For _ _ [_, _, r] _ _, _] => [r]
        | _ => []) tl ∧
        ∀ (D : Ends) (G : Hp) (p : Addr) (us : List V) (ps : List (Int × Int)) (bef lies u t : Int) (c : Bool) (x9 : Option V), But z H G → Src z G → H p = none → p ≠ z → G p = some (.lst us) → PrL G us ps → us.length ≤ 7 →
          (∀ G' us' ps' bef' lies', But z H G' → Src z G' → G' p = some (.lst us') → PrL G' us' ps' → us'.length ≤ us.length + 1 → ((bef' = bef ∧ lies' = lies) ∨ (bef' = u ∧ lies' = t)) → D.nx [some (.ref z), some (.int n), some (.str x), some (.int b), some (.int s), some (.int 8), some (.ref p), some (.int bef'), some (.int lies'), x9, some (.int u), some (.int t), some (.bl c)] G') →
          tl D [some (.ref z), some (.int n), some (.str x), some (.int b), some (.int s), some (.int 8), some (.ref p), some (.int bef), some (.int lies), x9, some (.int u), some (.int t), some (.bl c)] G := by
      have app : ∃ ta, PSs (cxOf CX0 P w K mg base nD "_law_drawn_moves" (defScope sDrawn) f cdv A outer ‹Shared› H E).nox (match defBody sDrawn with
          | [_, .For _ _ [_, _, .If _ r _ _] _ _, _] => r
          | _ => []) ta ∧
          ∀ (D : Ends) (G : Hp) (p : Addr) (us : List V) (ps : List (Int × Int)) (bef lies u t : Int) (c : Bool) (x9 : Option V), But z H G → Src z G → H p = none → p ≠ z → G p = some (.lst us) → PrL G us ps → us.length ≤ 7 →
            (∀ G' us' ps', But z H G' → Src z G' → G' p = some (.lst us') → PrL G' us' ps' → us'.length ≤ us.length + 1 → D.nx [some (.ref z), some (.int n), some (.str x), some (.int b), some (.int s), some (.int 8), some (.ref p), some (.int u), some (.int t), x9, some (.int u), some (.int t), some (.bl c)] G') →
            ta D [some (.ref z), some (.int n), some (.str x), some (.int b), some (.int s), some (.int 8), some (.ref p), some (.int bef), some (.int lies), x9, some (.int u), some (.int t), some (.bl c)] G := by
        refine ⟨_, pss_cons (ps_expr (pe_bm PySem.F.plainAttrs_list PySem.F.slot_list_append PySem.F.type_list_append mt_append (pv 6) (pa_cons (pe_tup (pa_cons (pv 10) (pa_cons (pv 11) pa_nil))) pa_nil)))
          (pss_one (ps_par (i := 7) (j := 8) (by rfl) scDrawn.nd rfl rfl (by decide) rfl rfl (pa_cons (pv 10) (pa_cons (pv 11) pa_nil)) (by rfl))), ?_⟩
        intro D G p us ps bef lies u t c x9 b1 z1 np pz hp hpr lu next
        refine ⟨_, rfl, .inl ⟨rfl, _, SqL.of hp⟩, _, rfl, _, rfl, by show 2 ≤ sizeLine; decide, fun a2 na2 => ?_⟩
        have s2 : Same G (upd G a2 (.tup [.int u, .int t])) := same_up na2
        have hp2 := s2 _ _ hp
        refine ⟨p, _, _, rfl, rfl, hp2, small1000 (by omega), _, rfl, _, rfl, _, _, rfl, next _ (us ++ [.ref a2]) (ps ++ [(u, t)]) ?_ ?_ upd_same ?_ (by rw [List.length_append]; exact Nat.le_refl _)⟩
        · intro bb o hb _ ho
          have h1 := s2 _ _ (b1 bb o hb trivial ho)
          rw [upd_ne (ne_of_none ho np)]
          exact h1
        · obtain ⟨y1, y2, e, r⟩ := z1
          exact ⟨y1, y2, by rw [upd_ne (Ne.symm pz)]; exact s2 _ _ e, r⟩
        · exact PrL.lst hp2 ((hpr.same s2).app (.cons ⟨a2, rfl, upd_same⟩ .nil))
      obtain ⟨ta, ha, rda⟩ := app
      refine ⟨_, pss_one (ps_if (PW.pt (pw_or (pt_val (pv 12)) (pw_or1 (pt_cmpR op_eq (pe_call GT (hr.mono (by decide)) (by rfl) mT kT bT .nil pass0 (pa_cons (pv 0) (pa_cons pe_int pa_nil))) pe_int (nomark _))))) ha pss_nil), ?_⟩
      intro D G p us ps bef lies u t c x9 b1 z1 np pz hp hpr lu next
      cases c with
      | true => exact ⟨_, rfl, _, rfl, iteT (rda _ G p us ps bef lies u t true x9 b1 z1 np pz hp hpr lu fun G' us' ps' a1 a2 a3 a4 a5 => next G' us' ps' u t a1 a2 a3 a4 a5 (.inr ⟨rfl, rfl⟩))⟩
      | false =>
        refine ⟨_, rfl, _, rfl, iteF ⟨_, rfl, z, 9, rfl, z1, by omega, by omega, fun r G2 r0 r1 b2 z2 => ⟨rfl, _, rfl, ?_⟩⟩⟩
        have hp2 := b2 _ _ pz trivial hp
        have hpr2 := hpr.but b2 z1
        refine ite2 (fun _ => rda _ G2 p us ps bef lies u t false x9 (b1.trans b2) z2 np pz hp2 hpr2 lu fun G' us' ps' a1 a2 a3 a4 a5 => next G' us' ps' u t a1 a2 a3 a4 a5 (.inr ⟨rfl, rfl⟩)) fun _ => next G2 us ps bef lies (b1.trans b2) z2 hp2 hpr2 (Nat.le_succ _) (.inl ⟨rfl, rfl⟩)
    obtain ⟨tl, hl, rd⟩ := last
    refine ⟨_, pss_cons (ps_par3 (i := 6) (j := 7) (l := 8) (by rfl) scDrawn.nd rfl rfl rfl (by decide) (by decide) (by decide) rfl rfl rfl (pa_cons (pe_lst pa_nil) (pa_cons pe_int (pa_cons (pv 4) pa_nil))) (by rfl))
      (pss_cons (ps_for PassesOwn.never rfl (pi_range1 rfl T.rng (pa_cons (pe_call GT (hr.mono (by decide)) (by rfl) mT kT bT .nil pass0 (pa_cons (pv 0) (pa_cons (pe_op op_add (pv 5) pe_int) pa_nil))) pa_nil)) (pg_name (i := 9) scDrawn.nd rfl (Or.inl rfl))
        (pss_cons (ps_par (i := 10) (j := 11) (by rfl) scDrawn.nd rfl rfl (by decide) rfl rfl (pa_cons (pe_op op_sub (pe_op op_add (pv 7) (pe_call GT (hr.mono (by decide)) (by rfl) mT kT bT .nil pass0 (pa_cons (pv 0) (pa_cons pe_int pa_nil)))) pe_int) (pa_cons (pe_call GT (hr.mono (by decide)) (by rfl) mT kT bT .nil pass0 (pa_cons (pv 0) (pa_cons (pv 1) pa_nil))) pa_nil)) (by rfl))
        (pss_cons (ps_set (i := 12) scDrawn.nd rfl (Or.inl rfl) (pe_and (pe_chain op_le op_lt (pv 7) (pv 10) (pe_op op_sub (pv 1) pe_int)) (pe_one (pe_call GM hr (by rfl) mM kM bM .nil pass0 (pa_cons (pv 1) (pa_cons (pv 2) (pa_cons (pv 3) (pa_cons (pe_op op_add (pv 10) pe_int) (pa_cons (pv 8) (pa_cons (pv 11) pa_nil))))))))))
        hl)))
      (pss_one (ps_ret (pv 6)))), ?_⟩
    refine ⟨by show 0 ≤ sizeLine; decide, fun p0 hp0 => ⟨_, rfl, _, _, _, rfl, ?_⟩⟩
    have z0 := hz.same (same_up (o := .lst []) hp0)
    refine ⟨_, rfl, _, rfl, _, _, rfl, rfl, z, 8 + 1, rfl, z0, by decide, by decide, fun r G0 r0 r1 b0 zz0 => ?_⟩
    have pz : p0 ≠ z := (ne_of_none hoz hp0).symm
    have bH : But z H G0 := fun bb o hb _ ho => b0 bb o hb trivial (same_up hp0 _ _ ho)
    refine ⟨r, rfl, by omega, by omega, for_range (n := r.toNat) (fun i σ G => ∃ us ps bef lies x9 x10 x11 x12, σ = [some (.ref z), some (.int n), some (.str x), some (.int b), some (.int s), some (.int 8), some (.ref p0), some (.int bef), some (.int lies), x9, x10, x11, x12] ∧ But z H G ∧ Src z G ∧ G p0 = some (.lst us) ∧ PrL G us ps ∧ us.length ≤ i ∧ -(i : Int) ≤ bef ∧ bef ≤ 4 * i ∧ 0 ≤ lies ∧ lies < n)
      ⟨[], [], 0, s, _, _, _, _, rfl, bH, zz0, b0 _ _ pz trivial upd_same, .nil, Nat.le_refl _, by decide, by decide, R.s0, R.s1⟩ ?_ ?_⟩
    · rintro i σ G hi ⟨us, ps, bef, lies, x9, x10, x11, x12, rfl, b1, z1, hp, hpr, lu, c1, c2, c3, c4⟩
      have i8 : i ≤ 7 := by omega
      refine ⟨_, rfl, _, rfl, z, 5, rfl, z1, by decide, by decide, fun r1 G1 q0 q1 b2 z2 => ⟨_, _, rfl, rfl, _, _, rfl, rfl, ?_⟩⟩
      refine ⟨_, rfl, _, rfl, z, n, rfl, z2, by omega, by omega, fun t G2 t0 t1 b3 z3 => ⟨_, _, rfl, ?_⟩⟩
      have hp3 := b3 _ _ pz trivial (b2 _ _ pz trivial hp)
      have hpr3 := (hpr.but b2 z1).but b3 z2
      have b13 := (b1.trans b2).trans b3
      have sr := Same.refl G2
      refine ⟨_, rfl, _, rfl, _, _, rfl, rfl, _, rfl, ?_⟩; skip
      by_cases h1 : ¬ bef ≤ bef + r1 - 1
      · rw [decide_eq_false h1]
        exact iteF ⟨_, rfl, iteF (rd _ G2 p0 us ps bef lies (bef + r1 - 1) t false _ (b13.trans (But.of sr)) (z3.same sr) hp0 pz (sr _ _ hp3) (hpr3.same sr) (by omega) fun G4 us' ps' bef' lies' a1 a2 a3 a4 a5 a6 => ⟨us', ps', bef', lies', some (.int (0 + (i : Int))), some (.int (bef + r1 - 1)), some (.int t), some (.bl false), rfl, a1, a2, a3, a4, by omega, by omega, by omega, by omega, by omega⟩)⟩
      have h1 := Decidable.not_not.mp h1
      rw [decide_eq_true h1]
      refine iteT ⟨_, rfl, _, _, rfl, rfl, _, _, rfl, rfl, _, rfl, ?_⟩
      by_cases h2 : ¬ bef + r1 - 1 < n - 1
      · rw [decide_eq_false h2]
        exact iteF (rd _ G2 p0 us ps bef lies (bef + r1 - 1) t false _ (b13.trans (But.of sr)) (z3.same sr) hp0 pz (sr _ _ hp3) (hpr3.same sr) (by omega) fun G4 us' ps' bef' lies' a1 a2 a3 a4 a5 a6 => ⟨us', ps', bef', lies', some (.int (0 + (i : Int))), some (.int (bef + r1 - 1)), some (.int t), some (.bl false), rfl, a1, a2, a3, a4, by omega, by omega, by omega, by omega, by omega⟩)
      have h2 := Decidable.not_not.mp h2
      rw [decide_eq_true h2]
      refine iteT ?_
      refine ⟨_, rfl, _, rfl, _, rfl, _, rfl, _, _, rfl, rfl, _, rfl, _, rfl, n, b, _, lies, t, x, rfl, by omega, by omega, by omega, fun G3 s3 => ?_⟩
      exact rd _ G3 p0 us ps bef lies (bef + r1 - 1) t _ _ (b13.trans (But.of s3)) (z3.same s3) hp0 pz (s3 _ _ hp3) (hpr3.same s3) (by omega) fun G4 us' ps' bef' lies' a1 a2 a3 a4 a5 a6 => ⟨us', ps', bef', lies', some (.int (0 + (i : Int))), some (.int (bef + r1 - 1)), some (.int t), some (.bl _), rfl, a1, a2, a3, a4, by omega, by omega, by omega, by omega, by omega⟩
    · rintro σ G ⟨us, ps, bef, lies, x9, x10, x11, x12, rfl, b1, z1, hp, hpr, lu, c1, c2, c3, c4⟩
      exact ⟨_, rfl, q p0 G us ps b1 z1 hp0 pz hp hpr (by omega)⟩
end
end Pl

namespace Pl
open L2 PySem PySem.Spec PyProof.Rows
/-- what is told by refusals -/
def oddL : List PyData := [.none, .bool true, .bool false, .int (-1), .int 0, .int 1, .int 2, .int 3, .int 4, .int 5, .int 6, .int 7, .int 8, .int 9, .int 10, .str "0", .str "2", .str "Free", .str "", .list [.str "free"]]
def wordL : List Str := ["moves", "count", "way", "page"]
theorem odd_all : (oddL.all fun d => d.showable && decide (d.depth ≤ 10) && decide (d.shown.length ≤ sizeLine) && wordL.all fun w => SeqAt.shaped (.list [.str w, .str d.shown])) = true := by decide +kernel
theorem odd_ok {d : PyData} (h : d ∈ oddL) : Shw d ∧ ∀ w ∈ wordL, SeqAt.shaped (.list [.str w, .str d.shown]) = true := by
  have := List.all_eq_true.mp odd_all d h
  rw [Bool.and_eq_true, Bool.and_eq_true, Bool.and_eq_true] at this
  exact ⟨⟨this.1.1.1, of_decide_eq_true this.1.1.2, of_decide_eq_true this.1.2⟩, fun w hw => List.all_eq_true.mp this.2 w hw⟩
def OdV (H : Hp) (v : V) (e : PyData) : Prop := e ∈ oddL ∧ ∃ m z, Dv m z H false v e
theorem OdV.same {H G : Hp} {v : V} {e : PyData} (h : OdV H v e) (s : Same H G) : OdV G v e := by
  obtain ⟨m, k, z, d⟩ := h
  exact ⟨m, k, z, Dv.to (But.of s) _ _ _ d⟩
theorem OdV.fl {H : Hp} {v : V} {e : PyData} (m : e ∈ oddL) (f : Fl v e) : OdV H v e := ⟨m, true, 0, f.dv⟩
abbrev outL (w : Str) (d : PyData) : HO := .lst [.str w, .str d.shown]
structure Four where
  m : Addr
  n : Addr
  w : Addr
  p : Addr
def Four.is_ (c : Four) (w : Str) (cls : Value) : Prop := (w = "moves" ∧ cls = .ref c.m) ∨ (w = "count" ∧ cls = .ref c.n) ∨ (w = "way" ∧ cls = .ref c.w) ∨ (w = "page" ∧ cls = .ref c.p)
theorem Four.word {c : Four} {w : Str} {cls : Value} (h : c.is_ w cls) : w ∈ wordL := by
  rcases h with ⟨rfl, _⟩ | ⟨rfl, _⟩ | ⟨rfl, _⟩ | ⟨rfl, _⟩ <;> simp [wordL]
def TTr (c : Four) : (XK → Hp → VK → Prop) → Hp → VK → Prop := fun tl H Q =>
  tl (fun cls d H' => ∃ (dd : Addr) (v : V) (e : PyData) (w : Str), c.is_ w cls ∧ d = some dd ∧ H' dd = some (.xd [("told", v)]) ∧ OdV H' v e ∧ ∀ p, H' p = none → Q (.ref p) (upd H' p (outL w e))) H fun v H1 => 2 ≤ sizeLine ∧ ∀ l, H1 l = none → Q (.ref l) (upd H1 l (.lst [.str "told", v]))
structure ErrS (K : PySem.W.Frag) (mg : Str → Option Value) (x : Str) (C : Addr) : Prop where
  gC : mg x = some (.ref C)
  xf : XfC K C
  no : PySem.W.findIn K (.ref C) "told" = some none
structure Tri (K : PySem.W.Frag) (mg : Str → Option Value) (c : Four) : Prop where
  m : ErrS K mg "NoMoves" c.m
  n : ErrS K mg "NoCount" c.n
  w : ErrS K mg "NoWay" c.w
  p : ErrS K mg "NoPage" c.p
  mm : PySem.W.exmOne K (.ref c.m) (.ref c.m) = some true
  nm : PySem.W.exmOne K (.ref c.n) (.ref c.m) = some false
  nn : PySem.W.exmOne K (.ref c.n) (.ref c.n) = some true
  wm : PySem.W.exmOne K (.ref c.w) (.ref c.m) = some false
  wn : PySem.W.exmOne K (.ref c.w) (.ref c.n) = some false
  ww : PySem.W.exmOne K (.ref c.w) (.ref c.w) = some true
  pm : PySem.W.exmOne K (.ref c.p) (.ref c.m) = some false
  pn : PySem.W.exmOne K (.ref c.p) (.ref c.n) = some false
  pw : PySem.W.exmOne K (.ref c.p) (.ref c.w) = some false
  pp : PySem.W.exmOne K (.ref c.p) (.ref c.p) = some true
abbrev psT : List Str := ["_law_call", "e"]
theorem scTried : FnScope psT ["_law_call"] (defScope sTried) := ⟨rfl, rfl, rfl, by decide +kernel, rfl, by decide +kernel, by decide +kernel⟩
theorem takes_len {X : Cx} {W : WX} (tk : Takes X W) : Takes X (fun cls d σ H => σ.length = X.N.length → W cls d σ H) := fun u s' ⟨a, B, sI, pins, σ, H, cls, d, e, I, nb, up, sky, na, os, ag, w⟩ => tk u s' ⟨a, B, sI, pins, σ, H, cls, d, e, I, nb, up, sky, na, os, ag, w I.len⟩
theorem pss_ex {X : Cx} {b : List Stmt} {ι : Type} {Pre : ι → Prop} {t : ι → Ends → L2.St → Hp → Prop} (h : ∀ i, Pre i → PSs X b (t i)) : PSs X b (fun D σ H => ∃ i, Pre i ∧ t i D σ H) := ⟨fun pins s σ H D I ⟨i, p, h'⟩ => (h i p).run pins s σ H D I h'⟩
theorem tried_gives {X : Cx} {c : Four} {g : Addr} {cdg : Value} {q : Str} (hgd : X.A.guards = some []) (hun : X.A.units + 128 < cLine) (T : Cst X.mg) (S : Tri X.K X.mg c) : LamX.GivesTo X psT "_law_tried" (defScope sTried) g cdg (defBody sTried) "_law_call" q (TTr c) := by
  intro f c' s H Q tl act hc h
  have hu : (X.A.deeper (envOfC "_law_tried" (defScope sTried) s.heap.objs.size g cdg)).units + 64 < cLine := by
    show X.A.units + 3 + 64 < cLine
    omega
  refine ⟨_, pss_one (ps_try_all (X := (cxOf C8.CX0 X.prog X.w X.K X.mg X.base psT "_law_tried" (defScope sTried) g cdg X.A X.stack s H C8.E0).nox) (i := 1) (n := "e")
      rfl rfl scTried.nd rfl rfl takes0 (fun W pn xe tk _ => pss_ex (Pre := fun Ech : XK => ∀ cls d σ' H', Ech cls d H' → (List.length σ' = 2) → W cls d σ' H') fun Ech hW => pss_one (ps_ret (pe_lst (pa_cons pe_str (pa_cons (act _ pn xe Ech _ _ (takes_len tk) hW) pa_nil)))))
      (.cons (x := "NoMoves") ⟨rfl, by decide, .inl S.m.gC⟩ (fun a oe cls d pn hz hf => pss_one (ps_ret (pe_lst (pa_cons pe_str (pa_cons (pe_callB (call_repr hgd hu) (by rfl) T.rpr (by decide +kernel) (pa_cons (pe_xf S.m.xf S.m.no hz hf (pv 1)) pa_nil)) pa_nil)))))
      (.cons (x := "NoCount") ⟨rfl, by decide, .inl S.n.gC⟩ (fun a oe cls d pn hz hf => pss_one (ps_ret (pe_lst (pa_cons pe_str (pa_cons (pe_callB (call_repr hgd hu) (by rfl) T.rpr (by decide +kernel) (pa_cons (pe_xf S.n.xf S.n.no hz hf (pv 1)) pa_nil)) pa_nil)))))
      (.cons (x := "NoWay") ⟨rfl, by decide, .inl S.w.gC⟩ (fun a oe cls d pn hz hf => pss_one (ps_ret (pe_lst (pa_cons pe_str (pa_cons (pe_callB (call_repr hgd hu) (by rfl) T.rpr (by decide +kernel) (pa_cons (pe_xf S.w.xf S.w.no hz hf (pv 1)) pa_nil)) pa_nil)))))
      (.cons (x := "NoPage") ⟨rfl, by decide, .inl S.p.gC⟩ (fun a oe cls d pn hz hf => pss_one (ps_ret (pe_lst (pa_cons pe_str (pa_cons (pe_callB (call_repr hgd hu) (by rfl) T.rpr (by decide +kernel) (pa_cons (pe_xf S.p.xf S.p.no hz hf (pv 1)) pa_nil)) pa_nil)))))
      .nil))))), ?_⟩
  refine ⟨_, ?_, rfl, hc, h⟩
  rintro cls d σ' H' ⟨dd, v, e, w, hw, rfl, hd, ⟨me, m, z, dv⟩, q'⟩ hl
  match σ', hl with
  | [y1, y2], _ =>
  rcases hw with ⟨rfl, rfl⟩ | ⟨rfl, rfl⟩ | ⟨rfl, rfl⟩ | ⟨rfl, rfl⟩
  · exact ⟨true, S.mm, fun _ a ha => ⟨_, rfl, rfl, rfl, dd, _, v, rfl, hd, rfl, m, z, v, e, rfl, dv, (odd_ok me).1, by show 2 ≤ sizeLine; decide, fun l hl => q' l hl⟩, fun q => nomatch q⟩
  · exact ⟨false, S.nm, (fun q => nomatch q), fun _ => ⟨true, S.nn, fun _ a ha => ⟨_, rfl, rfl, rfl, dd, _, v, rfl, hd, rfl, m, z, v, e, rfl, dv, (odd_ok me).1, by show 2 ≤ sizeLine; decide, fun l hl => q' l hl⟩, fun q => nomatch q⟩⟩
  · exact ⟨false, S.wm, (fun q => nomatch q), fun _ => ⟨false, S.wn, (fun q => nomatch q), fun _ => ⟨true, S.ww, fun _ a ha => ⟨_, rfl, rfl, rfl, dd, _, v, rfl, hd, rfl, m, z, v, e, rfl, dv, (odd_ok me).1, by show 2 ≤ sizeLine; decide, fun l hl => q' l hl⟩, fun q => nomatch q⟩⟩⟩
  · exact ⟨false, S.pm, (fun q => nomatch q), fun _ => ⟨false, S.pn, (fun q => nomatch q), fun _ => ⟨false, S.pw, (fun q => nomatch q), fun _ => ⟨true, S.pp, fun _ a ha => ⟨_, rfl, rfl, rfl, dd, _, v, rfl, hd, rfl, m, z, v, e, rfl, dv, (odd_ok me).1, by show 2 ≤ sizeLine; decide, fun l hl => q' l hl⟩, fun q => nomatch q⟩⟩⟩⟩
theorem eqv_self {d : PyData} (h : SeqAt.shaped d = true) : PyData.eqv d d = true := by
  have h' : (d.canLay0 && decide (d.depth ≤ 64)) = true := h
  rw [Bool.and_eq_true] at h'
  exact SeqAt.eqv_refl d h'.1
theorem shaped_told (k : Int) : SeqAt.shaped (.list [.str "told", .int k]) = true := by
  show (PyData.canLay0 (.list [.str "told", .int k]) && decide (PyData.depth (.list [.str "told", .int k]) ≤ 64)) = true
  rw [Bool.and_eq_true]
  refine ⟨?_, decide_eq_true (by simp only [PyData.depth, PyData.depthAll]; omega)⟩
  simp only [PyData.canLay0, PyData.canLayAll0, Bool.and_true]
  decide +kernel
theorem ne_lists {K : PySem.W.Frag} {G : Hp} {p p2 : Addr} {w : Str} {e : PyData} {Q : VK} (hw : w ∈ wordL) (me : e ∈ oddL) (hp : G p = some (outL w e)) (hp2 : G p2 = some (outL w e)) (q : Q (.bl false) G) : rNeD K (.ref p) (.ref p2) G Q := by
  have sh := (odd_ok me).2 w hw
  refine ⟨_, _, .lst (SqL.of hp) (.cons (.str _) (.cons (.str _) .nil)), .lst (SqL.of hp2) (.cons (.str _) (.cons (.str _) .nil)), sh, sh, ?_⟩
  rw [eqv_self sh]
  exact q
theorem eq_lists {K : PySem.W.Frag} {G : Hp} {p p2 : Addr} {w : Str} {e : PyData} {Q : VK} (hw : w ∈ wordL) (me : e ∈ oddL) (hp : G p = some (outL w e)) (hp2 : G p2 = some (outL w e)) (q : Q (.bl true) G) : rEqD K (.ref p) (.ref p2) G Q := by
  have sh := (odd_ok me).2 w hw
  refine ⟨_, _, .lst (SqL.of hp) (.cons (.str _) (.cons (.str _) .nil)), .lst (SqL.of hp2) (.cons (.str _) (.cons (.str _) .nil)), sh, sh, ?_⟩
  rw [eqv_self sh]
  exact q
theorem eq_told {K : PySem.W.Frag} {G : Hp} {p p2 : Addr} {k : Int} {Q : VK} (hp : G p = some (.lst [.str "told", .int k])) (hp2 : G p2 = some (.lst [.str "told", .int k])) (q : Q (.bl true) G) : rEqD K (.ref p) (.ref p2) G Q := by
  refine ⟨_, _, .lst (SqL.of hp) (.cons (.str _) (.cons (.int _) .nil)), .lst (SqL.of hp2) (.cons (.str _) (.cons (.int _) .nil)), shaped_told k, shaped_told k, ?_⟩
  rw [eqv_self (shaped_told k)]
  exact q
theorem PrL.mv {K : PySem.W.Frag} {H : Hp} : ∀ {us : List V} {ps : List (Int × Int)}, PrL H us ps → MvL K H us (ps.map mo)
  | _, _, .nil => .nil
  | _, _, .cons ⟨a, e, h⟩ t => .cons (e ▸ .pr h (.int _) (.int _)) t.mv
theorem odd_nat {i : Nat} (h : i ≤ 10) : PyData.int (i : Nat) ∈ oddL := by
  have : i = 0 ∨ i = 1 ∨ i = 2 ∨ i = 3 ∨ i = 4 ∨ i = 5 ∨ i = 6 ∨ i = 7 ∨ i = 8 ∨ i = 9 ∨ i = 10 := by omega
  rcases this with rfl | rfl | rfl | rfl | rfl | rfl | rfl | rfl | rfl | rfl | rfl <;> simp [oddL]
/-- the walk of a right setting is checked -/
theorem cw_ok {K : PySem.W.Frag} {CN CW CP : Addr} {n b s : Int} {x : Str} {H : Hp} {E : XK} {g : Int → Str → Int → Int → Prop} (R : Rw n b s x) (h : g n x b s) : Cw K CN CW CP (.int n) (.str x) (.int b) (.int s) H E g := by
  have h1 := R.b1
  have h2 := R.s1
  refine ⟨_, ck_int R.n0 R.n1 ?_⟩
  intro _ e _ _; cases e
  refine ⟨some x, ⟨.str x, fun _ => ?_, fun e => by rw [R.ok] at e; cases e⟩⟩
  intro _ e _; cases e
  refine ⟨_, ck_int R.b0 (by omega) ?_⟩
  intro _ e _ _; cases e
  refine ⟨_, ck_int R.s0 (by omega) ?_⟩
  intro _ e _ _; cases e
  exact h
end Pl

namespace Pl
open L2 PySem PySem.Spec PyProof.Rows
theorem PrL.ext {H G : Hp} (e : LamX.ExtN H G) : ∀ {us : List V} {ps : List (Int × Int)}, PrL H us ps → PrL G us ps
  | _, _, .nil => .nil
  | _, _, .cons ⟨a, e1, h⟩ t => .cons ⟨a, e1, e _ _ h fun _ q => by cases q⟩ (PrL.ext e t)
abbrev lam1 : Str := (envOfC "_law_moves_right" (defScope sMovesR) 0 0 (.ref 0)).qual ++ "<lambda>"
abbrev lam2 : Str := (envOfC "_law_odd_right" (defScope sOddR) 0 0 (.ref 0)).qual ++ "<lambda>"
abbrev lam3 : Str := (envOfC "_law_values_refused" (defScope sRefused) 0 0 (.ref 0)).qual ++ "<lambda>"
abbrev TbL := List (Addr × Str)
def spMovesR (Tb : TbL) : Sp := fun vs H Q _ => ∃ (n b s : Int) (x : Str) (a : Addr) (us : List V) (ps : List (Int × Int)), vs = [.int n, .str x, .int b, .int s, .ref a] ∧ Rw n b s x ∧ H a = some (.lst us) ∧ PrL H us ps ∧ us.length ≤ 8 ∧ LamX.Tabs Tb H ∧ ∀ H', LamX.ExtN H H' → LamX.Tabs Tb H' → Q (.bl true) H'
section
variable {P : Program} {K : PySem.W.Frag} {w : World} {base : Heap} {mg : Str → Option Value} {c : Four} {cd Pt : Addr} {Tb : TbL}
theorem scMovesR : FnScope ["_law_size", "_law_way", "_law_begin", "_law_spot", "_law_steps", "_law_at", "_law_due"] psA (defScope sMovesR) := ⟨rfl, rfl, rfl, by decide +kernel, rfl, by decide +kernel, by decide +kernel⟩
theorem ok_movesR {f gT : Addr} {fd fdT : FuncData} (F : FunC K "_law_moves_right" "_law_moves_right" sMovesR f cd fd) (T : Cst mg) (S : Tri K mg c) (TB : LamX.TabB base mg cd Pt) (hmT : (Pt, lam1) ∈ Tb) (huT : ∀ p ∈ Tb, p.1 = Pt → p.2 = lam1) (FT : Fun K "_law_tried" "_law_tried" sTried gT fdT) (mT : mg "_law_tried" = some (.ref gT)) (bT : Binds K fdT ["_law_call"] [])
    (DI : DfX P w K mg base 5 "is_let" psF (spIsLet K c.n c.w c.p)) (DG : DfX P w K mg base 5 "sights" psF (spSights K c.n c.w c.p c.m)) (DF : Df P w K mg base 4 "_law_first_wrong" psA spLFirst) (DL : Df P w K mg base 1 "_law_sights" psA spLSights) : FnG P w K mg base 8 f fd psA (spMovesR Tb) := by
  obtain ⟨oc, od, kV, doc, pm, an, cdv, ct, osl, rfl, lT, hcT⟩ := FT.ex
  have kT := FT.kp
  obtain ⟨gI, fdI, GI, mI, kI, bI⟩ := DI.ex
  obtain ⟨gG, fdG, GG, mG, kG, bG⟩ := DG.ex
  obtain ⟨gF, fdF, GF, mF, kF, bF⟩ := DF.ex
  obtain ⟨gL, fdL, GL, mL, kL, bL⟩ := DL.ex
  refine okC F scMovesR (fun vs H Q E h => ?_) (fun A outer s H vs Q E hgd hr h => ?_)
  · obtain ⟨n, b, s, x, a, us, ps, rfl, _⟩ := h
    rfl
  · obtain ⟨n, b, s, x, a, us, ps, rfl, R, ha, hp, lu, hT, q⟩ := h
    have hu : (A.deeper (envOfC "_law_moves_right" (defScope sMovesR) ‹Shared›.heap.objs.size f (.ref cd))).units + 64 < cLine := by
      have := hr.un
      omega
    have hun : (A.deeper (envOfC "_law_moves_right" (defScope sMovesR) ‹Shared›.heap.objs.size f (.ref cd))).units + 128 < cLine := by
      have := hr.un
      omega
    refine ⟨_, pss_cons (ps_set (i := 5) scMovesR.nd rfl (Or.inl rfl) (pe_call GF (hr.mono (by decide)) (by rfl) mF kF bF .nil pass0 (pa_cons (pv 0) (pa_cons (pv 1) (pa_cons (pv 2) (pa_cons (pv 3) (pa_cons (pv 4) pa_nil)))))))
      (pss_cons (ps_if (pt_cmpR op_ne (pe_call (E := fun _ _ _ => False) GI (hr.mono (by decide)) (by rfl) mI kI bI .nil (passes_call takes0 fun _ _ _ _ h => h) (pa_cons (pv 0) (pa_cons (pv 1) (pa_cons (pv 2) (pa_cons (pv 3) (pa_cons (pv 4) pa_nil)))))) (pe_cmpR op_isN (pv 5) pe_non (nomark _)) (nomark _)) (pss_one (ps_ret pe_bl)) pss_nil)
      (pss_cons (ps_if (pt_cmpR op_ne (pe_call (E := fun _ _ _ => False) GI (hr.mono (by decide)) (by rfl) mI kI bI .nil (passes_call takes0 fun _ _ _ _ h => h) (pa_cons (pv 0) (pa_cons (pv 1) (pa_cons (pv 2) (pa_cons (pv 3) (pa_cons (pe_callTy call_tuple_of (by rfl) T.ttup (by decide +kernel) (pa_cons (pv 4) pa_nil)) pa_nil)))))) (pe_cmpR op_isN (pv 5) pe_non (nomark _)) (nomark _)) (pss_one (ps_ret pe_bl)) pss_nil)
      (pss_cons (ps_set (i := 6) scMovesR.nd rfl (Or.inl rfl) (pe_ifExp (pt_cmpR op_notN (pv 5) pe_non (nomark _)) (pe_lst (pa_cons pe_str (pa_cons (pe_callB (call_repr hgd hu) (by rfl) T.rpr (by decide +kernel) (pa_cons (pv 5) pa_nil)) pa_nil))) (pe_lst (pa_cons pe_str (pa_cons (pe_callB call_len_seq (by rfl) T.len PySem.boot_len (pa_cons (pe_call GL (hr.mono (by decide)) (by rfl) mL kL bL .nil pass0 (pa_cons (pv 0) (pa_cons (pv 1) (pa_cons (pv 2) (pa_cons (pv 3) (pa_cons (pv 4) pa_nil)))))) pa_nil)) pa_nil)))))
      (pss_one (ps_ret (pe_cmpR (op_eqD hu) (LamX.pe_lamcall (x := "_law_tried") (a := "_law_call") (T := Tb) (TT := TTr c) (k := 5) (by rfl) mT kT lT hcT bT scTried rfl (Or.inl rfl) (tried_gives hgd hun T S) TB rfl hmT huT hr (show LamX.LamS (defScope sMovesR) _ from LamX.lamS_by (by decide +kernel)) rfl (fun _ _ _ _ _ => rfl) (fun A outer s H E f c' hr2 => pe_call (E := E) GG (hr2.mono (by decide)) (by rfl) mG kG bG .nil (passes_call (takes_of rfl rfl rfl rfl) fun _ _ _ _ h => h) (pa_cons (pv 0) (pa_cons (pv 1) (pa_cons (pv 2) (pa_cons (pv 3) (pa_cons (pv 4) pa_nil))))))) (pv 6) (nomark _))))))), ?_⟩
    refine ⟨_, rfl, _, rfl, _, rfl, _, rfl, _, rfl, n, b, s, x, a, us, ps, rfl, R, ha, hp, by omega, fun G1 s1 => ?_⟩
    cases e : firstW n x b 0 s (ps.map mo) 0 with
    | some i =>
      have li : i ≤ 10 := by
        have h1 := firstW_lt _ _ _ _ e
        have h2 := hp.len
        rw [List.length_map] at h1
        omega
      have e1 : letB n x b s (some (ps.map mo)) = false := by
        show (firstW n x b 0 s (ps.map mo) 0).isNone = _
        rw [e]
        rfl
      refine ⟨_, rfl, _, rfl, _, rfl, _, rfl, _, rfl, _, _, _, _, _, rfl, cw_ok R ⟨some (ps.map mo), .lst (s1 _ _ ha) (hp.same s1).mv (by omega), fun G2 s2 => ⟨_, rfl, rfl, rfl, _, rfl, ?_⟩⟩⟩
      rw [e1]
      refine ite2 (fun z => absurd z (by simp [optV])) fun _ => ?_
      have s12 := s1.trans s2
      refine ⟨_, rfl, _, rfl, _, rfl, _, rfl, _, rfl, a, _, rfl, .inl ⟨SqL.of (s12 _ _ ha), fun t nt => ?_⟩⟩
      have s3 : Same G2 (upd G2 t (.tup us)) := same_up nt
      refine ⟨_, _, _, _, _, rfl, cw_ok R ⟨some (ps.map mo), .tup upd_same ((hp.same s12).same s3).mv (by omega), fun G4 s4 => ⟨_, rfl, rfl, rfl, _, rfl, ?_⟩⟩⟩
      rw [e1]
      refine ite2 (fun z => absurd z (by simp [optV])) fun _ => ?_
      have s14 := s12.trans (s3.trans s4)
      refine ⟨_, rfl, rfl, _, rfl, iteT ?_⟩
      have me := odd_nat li
      refine ⟨_, rfl, true, 0, _, .int (i : Nat), rfl, .int _, (odd_ok me).1, by show 2 ≤ sizeLine; decide, fun p6 np6 => ?_⟩
      have s5 : Same G4 (upd G4 p6 (outL "moves" (.int (i : Nat)))) := same_up np6
      have s15 := s14.trans s5
      refine ⟨hT.ext s15, fun H1 eN T1 => ?_⟩
      have e16 : LamX.ExtN H H1 := (LamX.ExtN.of s15).trans eN
      have ha1 : H1 a = some (.lst us) := e16 _ _ ha fun _ q => by cases q
      refine ⟨_, rfl, _, rfl, _, rfl, _, rfl, _, rfl, _, _, _, _, _, rfl, cw_ok R (.inr ⟨ps.map mo, .lst ha1 (hp.ext e16).mv (by omega), fun i' hi => ?_, fun hn => ?_⟩)⟩
      · rw [e] at hi
        cases hi
        intro dd H' s' hd
        refine ⟨dd, .int (i : Nat), .int (i : Nat), "moves", .inl ⟨rfl, rfl⟩, rfl, hd, .fl me (.int _), fun p hp' => ?_⟩
        have h6 : H1 p6 = some (outL "moves" (.int (i : Nat))) := eN _ _ upd_same fun _ q => by cases q
        refine ⟨_, rfl, eq_lists (by simp [wordL]) me upd_same (same_up hp' _ _ (s' _ _ h6)) (q _ ?_ ?_)⟩
        · exact e16.trans (LamX.ExtN.of (s'.trans (same_up hp')))
        · exact T1.ext (s'.trans (same_up hp'))
      · rw [e] at hn
        cases hn
    | none =>
      have e1 : letB n x b s (some (ps.map mo)) = true := by
        show (firstW n x b 0 s (ps.map mo) 0).isNone = _
        rw [e]
        rfl
      refine ⟨_, rfl, _, rfl, _, rfl, _, rfl, _, rfl, _, _, _, _, _, rfl, cw_ok R ⟨some (ps.map mo), .lst (s1 _ _ ha) (hp.same s1).mv (by omega), fun G2 s2 => ⟨_, rfl, rfl, rfl, _, rfl, ?_⟩⟩⟩
      rw [e1]
      refine ite2 (fun z => absurd z (by simp [optV])) fun _ => ?_
      have s12 := s1.trans s2
      refine ⟨_, rfl, _, rfl, _, rfl, _, rfl, _, rfl, a, _, rfl, .inl ⟨SqL.of (s12 _ _ ha), fun t nt => ?_⟩⟩
      have s3 : Same G2 (upd G2 t (.tup us)) := same_up nt
      refine ⟨_, _, _, _, _, rfl, cw_ok R ⟨some (ps.map mo), .tup upd_same ((hp.same s12).same s3).mv (by omega), fun G4 s4 => ⟨_, rfl, rfl, rfl, _, rfl, ?_⟩⟩⟩
      rw [e1]
      refine ite2 (fun z => absurd z (by simp [optV])) fun _ => ?_
      have s14 := s12.trans (s3.trans s4)
      refine ⟨_, rfl, rfl, _, rfl, iteF ?_⟩
      refine ⟨_, rfl, _, rfl, _, rfl, _, rfl, _, rfl, n, b, s, x, a, us, ps, rfl, R, s14 _ _ ha, hp.same s14, by omega, fun pf G5 fs s5 npf hpf cnt => ⟨pf, _, rfl, .inl (SqL.of hpf), by show 2 ≤ sizeLine; decide, fun p6 np6 => ?_⟩⟩
      have len : ((List.map V.int fs).length : Int) = ((countM n x b s ps n.toNat : Nat) : Int) := by
        rw [List.length_map, cnt]
      have s6 : Same G5 (upd G5 p6 (.lst [.str "told", .int ((List.map V.int fs).length : Nat)])) := same_up np6
      have s16 := (s14.trans s5).trans s6
      refine ⟨hT.ext s16, fun H1 eN T1 => ?_⟩
      have e17 : LamX.ExtN H H1 := (LamX.ExtN.of s16).trans eN
      have ha1 : H1 a = some (.lst us) := e17 _ _ ha fun _ q => by cases q
      have h6 : H1 p6 = some (.lst [.str "told", .int ((List.map V.int fs).length : Nat)]) := eN _ _ upd_same fun _ q => by cases q
      rw [len] at h6
      refine ⟨_, rfl, _, rfl, _, rfl, _, rfl, _, rfl, _, _, _, _, _, rfl, cw_ok R (.inr ⟨ps.map mo, .lst ha1 (hp.ext e17).mv (by omega), fun i' hi => ?_, fun hn => ?_⟩)⟩
      · rw [e] at hi
        cases hi
      · refine ⟨a, us, ps, rfl, ha1, hp.ext e17, by omega, fun G7 s7 => ⟨by show 2 ≤ sizeLine; decide, fun l hl => ?_⟩⟩
        refine ⟨_, rfl, eq_told upd_same (same_up hl _ _ (s7 _ _ h6)) (q _ ?_ ?_)⟩
        · exact e17.trans (LamX.ExtN.of (s7.trans (same_up hl)))
        · exact T1.ext (s7.trans (same_up hl))
end
end Pl

namespace Pl
open L2 PySem PySem.Spec PyProof.Rows
theorem if_tried {K : PySem.W.Frag} {Tb : TbL} {c : Four} {C : Addr} {t : XK → TE} {tR : TE} {v : V} {e : PyData} {w : Str} {σ : L2.St} {G : Hp} {D : Ends} (hw : c.is_ w (.ref C)) (hT : LamX.Tabs Tb G)
    (raise : ∀ (E : XK) (H1 : Hp) (Q' : VK), LamX.ExtN G H1 → Rais C v H1 E → t E σ H1 Q') (od : ∀ H1, LamX.ExtN G H1 → OdV H1 v e)
    (right : ∀ (H1 : Hp) (Q' : VK), LamX.ExtN G H1 → (∀ p2 G2, Same H1 G2 → G2 p2 = some (outL w e) → Q' (.ref p2) G2) → tR σ H1 Q')
    (next : ∀ G', LamX.ExtN G G' → LamX.Tabs Tb G' → D.nx σ G') : tIfS (tTest (tOp (rNeD K) (LamX.tLam Tb (TTr c) t) tR)) (tRet (tC (V.bl false))) tNext D σ G := by
  refine ⟨hT, fun H1 eN T1 => raise _ H1 _ eN fun dd H' s' hd => ⟨dd, v, e, w, hw, rfl, hd, (od H1 eN).same s', fun p hp => ?_⟩⟩
  refine right _ _ (eN.trans (LamX.ExtN.of (s'.trans (same_up hp)))) fun p2 G2 s2 h2 => ?_
  have sA := (s'.trans (same_up (o := outL w e) hp)).trans s2
  exact ne_lists (Four.word hw) (od H1 eN).1 (s2 _ _ upd_same) h2 ⟨_, rfl, iteF (next G2 (eN.trans (LamX.ExtN.of sA)) (T1.ext sA))⟩
/-- [w, repr(the name in slot i)] -/
theorem due_read {w : Str} {i : Nat} {v : V} {e : PyData} {σ : L2.St} {H1 : Hp} {Q' : VK} (hv : σ[i]? = some (some v)) (od : OdV H1 v e) (q : ∀ p2 G2, Same H1 G2 → G2 p2 = some (outL w e) → Q' (.ref p2) G2) :
    tLst (tCons (tC (V.str w)) (tCons (tCB rRepr (tCons (tVar i) tNil)) tNil)) σ H1 Q' := by
  obtain ⟨me, m, z, dv⟩ := od
  exact ⟨v, hv, m, z, v, e, rfl, dv, (odd_ok me).1, by show 2 ≤ sizeLine; decide, fun p2 hp2 => q p2 _ (same_up hp2) upd_same⟩
theorem OdV.ext {H G : Hp} {v : V} {e : PyData} (h : Fl v e ∧ e ∈ oddL ∨ (v = .non ∧ e = .none) ∨ ∃ a, v = .ref a ∧ e = .list [.str "free"] ∧ H a = some (.lst [.str "free"])) (x : LamX.ExtN H G) : OdV G v e := by
  rcases h with ⟨f, m⟩ | ⟨rfl, rfl⟩ | ⟨a, rfl, rfl, h⟩
  · exact .fl m f
  · exact .fl (by simp [oddL]) .non
  · exact ⟨by simp [oddL], false, a + 1, .lst rfl (Nat.ne_of_lt (Nat.lt_succ_self a)) (x _ _ h fun _ q => by cases q) (.cons (.str _) .nil)⟩
theorem within_hi {i lo hi : Int} (h : hi < i) : within (.int i) lo hi = false := by
  show (decide (lo ≤ i) && decide (i ≤ hi)) = false
  rw [decide_eq_false (by omega : ¬ i ≤ hi), Bool.and_false]
theorem within_lo {i lo hi : Int} (h : i < lo) : within (.int i) lo hi = false := by
  show (decide (lo ≤ i) && decide (i ≤ hi)) = false
  rw [decide_eq_false (by omega : ¬ lo ≤ i), Bool.false_and]
theorem odd_six {n : Int} (a : 1 ≤ n) (b : n ≤ 6) : PyData.int n ∈ oddL := by
  have : n = 1 ∨ n = 2 ∨ n = 3 ∨ n = 4 ∨ n = 5 ∨ n = 6 := by omega
  rcases this with rfl | rfl | rfl | rfl | rfl | rfl <;> simp [oddL]
/-- flat values that are refused -/
def Ods (lo hi : Int) (xs : List V) : Prop := ∀ v ∈ xs, ∃ e, Fl v e ∧ e ∈ oddL ∧ within e lo hi = false
theorem ods_nil {lo hi : Int} : Ods lo hi [] := fun v h => by cases h
theorem ods_cons {lo hi : Int} {v : V} {e : PyData} {xs : List V} (f : Fl v e) (m : e ∈ oddL) (n : within e lo hi = false) (t : Ods lo hi xs) : Ods lo hi (v :: xs) := fun u h => by
  rcases List.mem_cons.mp h with h | h
  · rw [h]
    exact ⟨e, f, m, n⟩
  · exact t u h
theorem ck_oddE {C : Addr} {v : V} {e : PyData} {lo hi : Int} {H : Hp} {E : XK} {G : Prop} (f : Fl v e) (n : within e lo hi = false) (r : Rais C v H E) : ∃ d, Ck C v d lo hi H E G := ⟨e, ck_odd f n r⟩
def spRefused (Tb : TbL) : Sp := fun vs H Q _ => ∃ (n b s : Int) (x : Str), vs = [.int n, .str x, .int b, .int s] ∧ Rw n b s x ∧ LamX.Tabs Tb H ∧ ∀ H', LamX.ExtN H H' → LamX.Tabs Tb H' → Q (.bl true) H'
abbrev psV : List Str := ["_law_size", "_law_way", "_law_begin", "_law_spot"]
section
variable {P : Program} {K : PySem.W.Frag} {w : World} {base : Heap} {mg : Str → Option Value} {c : Four} {cd Pt : Addr} {Tb : TbL}
theorem scRefused : FnScope ["_law_size", "_law_way", "_law_begin", "_law_spot", "_law_due", "_law_odd"] psV (defScope sRefused) := ⟨rfl, rfl, rfl, by decide +kernel, rfl, by decide +kernel, by decide +kernel⟩
theorem ok_refused {f gT : Addr} {fd fdT : FuncData} (F : FunC K "_law_values_refused" "_law_values_refused" sRefused f cd fd) (T : Cst mg) (S : Tri K mg c) (TB : LamX.TabB base mg cd Pt) (hmT : (Pt, lam3) ∈ Tb) (huT : ∀ p ∈ Tb, p.1 = Pt → p.2 = lam3) (FT : Fun K "_law_tried" "_law_tried" sTried gT fdT) (mT : mg "_law_tried" = some (.ref gT)) (bT : Binds K fdT ["_law_call"] [])
    (DD : DfX P w K mg base 4 "distance" ["pages", "begin", "page"] (spDist c.n c.p)) (DI : DfX P w K mg base 5 "is_let" psF (spIsLet K c.n c.w c.p)) (DG : DfX P w K mg base 5 "sights" psF (spSights K c.n c.w c.p c.m)) : FnG P w K mg base 8 f fd psV (spRefused Tb) := by
  obtain ⟨oc, od, kV, doc, pm, an, cdv, ct, osl, rfl, lT, hcT⟩ := FT.ex
  have kT := FT.kp
  obtain ⟨gD, fdD, GD, mD, kD, bD⟩ := DD.ex
  obtain ⟨gI, fdI, GI, mI, kI, bI⟩ := DI.ex
  obtain ⟨gG, fdG, GG, mG, kG, bG⟩ := DG.ex
  refine okC F scRefused (fun vs H Q E h => ?_) (fun A outer s H vs Q E hgd hr h => ?_)
  · obtain ⟨n, b, s, x, rfl, _⟩ := h
    rfl
  · obtain ⟨n, b, s, x, rfl, R, hT, q⟩ := h
    have hu : (A.deeper (envOfC "_law_values_refused" (defScope sRefused) ‹Shared›.heap.objs.size f (.ref cd))).units + 64 < cLine := by
      have := hr.un
      omega
    have hun : (A.deeper (envOfC "_law_values_refused" (defScope sRefused) ‹Shared›.heap.objs.size f (.ref cd))).units + 128 < cLine := by
      have := hr.un
      omega
    have b1 := R.b1
    refine ⟨_, pss_cons (ps_for PassesOwn.never rfl (pi_list (pe_lst (pa_cons pe_non (pa_cons pe_int (pa_cons pe_int (pa_cons pe_bl (pa_cons pe_str pa_nil))))))) (pg_name (i := 5) scRefused.nd rfl (Or.inr rfl))
        (pss_cons (ps_if (pt_cmpR (op_neD hu) (LamX.pe_lamcall (x := "_law_tried") (a := "_law_call") (T := Tb) (TT := TTr c) (k := 5) (by rfl) mT kT lT hcT bT scTried rfl (Or.inl rfl) (tried_gives hgd hun T S) TB rfl hmT huT hr (show LamX.LamS (defScope sRefused) _ from LamX.lamS_by (by decide +kernel)) rfl (fun _ _ _ _ _ => rfl) (fun A outer s H E f c' hr2 => pe_call (E := E) GD (hr2.mono (by decide)) (by rfl) mD kD bD .nil (passes_call (takes_of rfl rfl rfl rfl) fun _ _ _ _ h => h) (pa_cons (pv 5) (pa_cons pe_non (pa_cons pe_non pa_nil)))))
          (pe_lst (pa_cons pe_str (pa_cons (pe_callB (call_repr hgd hu) (by rfl) T.rpr (by decide +kernel) (pa_cons (pv 5) pa_nil)) pa_nil))) (nomark _)) (pss_one (ps_ret pe_bl)) pss_nil)
        (pss_one (ps_if (pt_cmpR (op_neD hu) (LamX.pe_lamcall (x := "_law_tried") (a := "_law_call") (T := Tb) (TT := TTr c) (k := 5) (by rfl) mT kT lT hcT bT scTried rfl (Or.inl rfl) (tried_gives hgd hun T S) TB rfl hmT huT hr (show LamX.LamS (defScope sRefused) _ from LamX.lamS_by (by decide +kernel)) rfl (fun _ _ _ _ _ => rfl) (fun A outer s H E f c' hr2 => pe_call (E := E) GI (hr2.mono (by decide)) (by rfl) mI kI bI .nil (passes_call (takes_of rfl rfl rfl rfl) fun _ _ _ _ h => h) (pa_cons (pv 5) (pa_cons pe_non (pa_cons pe_non (pa_cons pe_non (pa_cons pe_non pa_nil)))))))
          (pe_lst (pa_cons pe_str (pa_cons (pe_callB (call_repr hgd hu) (by rfl) T.rpr (by decide +kernel) (pa_cons (pv 5) pa_nil)) pa_nil))) (nomark _)) (pss_one (ps_ret pe_bl)) pss_nil))))
      (pss_cons (ps_for PassesOwn.never rfl (pi_list (pe_lst (pa_cons pe_non (pa_cons pe_str (pa_cons pe_str (pa_cons pe_int (pa_cons (pe_lst (pa_cons pe_str pa_nil)) pa_nil))))))) (pg_name (i := 5) scRefused.nd rfl (Or.inr rfl))
        (pss_cons (ps_if (pt_cmpR (op_neD hu) (LamX.pe_lamcall (x := "_law_tried") (a := "_law_call") (T := Tb) (TT := TTr c) (k := 5) (by rfl) mT kT lT hcT bT scTried rfl (Or.inl rfl) (tried_gives hgd hun T S) TB rfl hmT huT hr (show LamX.LamS (defScope sRefused) _ from LamX.lamS_by (by decide +kernel)) rfl (fun _ _ _ _ _ => rfl) (fun A outer s H E f c' hr2 => pe_call (E := E) GI (hr2.mono (by decide)) (by rfl) mI kI bI .nil (passes_call (takes_of rfl rfl rfl rfl) fun _ _ _ _ h => h) (pa_cons (pv 0) (pa_cons (pv 5) (pa_cons pe_non (pa_cons pe_non (pa_cons pe_non pa_nil)))))))
          (pe_lst (pa_cons pe_str (pa_cons (pe_callB (call_repr hgd hu) (by rfl) T.rpr (by decide +kernel) (pa_cons (pv 5) pa_nil)) pa_nil))) (nomark _)) (pss_one (ps_ret pe_bl)) pss_nil)
        (pss_one (ps_if (pt_cmpR (op_neD hu) (LamX.pe_lamcall (x := "_law_tried") (a := "_law_call") (T := Tb) (TT := TTr c) (k := 5) (by rfl) mT kT lT hcT bT scTried rfl (Or.inl rfl) (tried_gives hgd hun T S) TB rfl hmT huT hr (show LamX.LamS (defScope sRefused) _ from LamX.lamS_by (by decide +kernel)) rfl (fun _ _ _ _ _ => rfl) (fun A outer s H E f c' hr2 => pe_call (E := E) GG (hr2.mono (by decide)) (by rfl) mG kG bG .nil (passes_call (takes_of rfl rfl rfl rfl) fun _ _ _ _ h => h) (pa_cons (pv 0) (pa_cons (pv 5) (pa_cons pe_non (pa_cons pe_non (pa_cons pe_non pa_nil)))))))
          (pe_lst (pa_cons pe_str (pa_cons (pe_callB (call_repr hgd hu) (by rfl) T.rpr (by decide +kernel) (pa_cons (pv 5) pa_nil)) pa_nil))) (nomark _)) (pss_one (ps_ret pe_bl)) pss_nil))))
      (pss_cons (ps_for PassesOwn.never rfl (pi_list (pe_lst (pa_cons pe_non (pa_cons (pe_op op_sub pe_int pe_int) (pa_cons (pv 0) (pa_cons pe_bl (pa_cons pe_str pa_nil))))))) (pg_name (i := 5) scRefused.nd rfl (Or.inr rfl))
        (pss_cons (ps_set (i := 4) scRefused.nd rfl (Or.inl rfl) (pe_lst (pa_cons pe_str (pa_cons (pe_callB (call_repr hgd hu) (by rfl) T.rpr (by decide +kernel) (pa_cons (pv 5) pa_nil)) pa_nil))))
        (pss_cons (ps_if (pt_cmpR (op_neD hu) (LamX.pe_lamcall (x := "_law_tried") (a := "_law_call") (T := Tb) (TT := TTr c) (k := 5) (by rfl) mT kT lT hcT bT scTried rfl (Or.inl rfl) (tried_gives hgd hun T S) TB rfl hmT huT hr (show LamX.LamS (defScope sRefused) _ from LamX.lamS_by (by decide +kernel)) rfl (fun _ _ _ _ _ => rfl) (fun A outer s H E f c' hr2 => pe_call (E := E) GD (hr2.mono (by decide)) (by rfl) mD kD bD .nil (passes_call (takes_of rfl rfl rfl rfl) fun _ _ _ _ h => h) (pa_cons (pv 0) (pa_cons (pv 5) (pa_cons pe_non pa_nil)))))
          (pv 4) (nomark _)) (pss_one (ps_ret pe_bl)) pss_nil)
        (pss_cons (ps_if (pt_cmpR (op_neD hu) (LamX.pe_lamcall (x := "_law_tried") (a := "_law_call") (T := Tb) (TT := TTr c) (k := 5) (by rfl) mT kT lT hcT bT scTried rfl (Or.inl rfl) (tried_gives hgd hun T S) TB rfl hmT huT hr (show LamX.LamS (defScope sRefused) _ from LamX.lamS_by (by decide +kernel)) rfl (fun _ _ _ _ _ => rfl) (fun A outer s H E f c' hr2 => pe_call (E := E) GD (hr2.mono (by decide)) (by rfl) mD kD bD .nil (passes_call (takes_of rfl rfl rfl rfl) fun _ _ _ _ h => h) (pa_cons (pv 0) (pa_cons (pv 2) (pa_cons (pv 5) pa_nil)))))
          (pv 4) (nomark _)) (pss_one (ps_ret pe_bl)) pss_nil)
        (pss_cons (ps_if (pt_cmpR (op_neD hu) (LamX.pe_lamcall (x := "_law_tried") (a := "_law_call") (T := Tb) (TT := TTr c) (k := 5) (by rfl) mT kT lT hcT bT scTried rfl (Or.inl rfl) (tried_gives hgd hun T S) TB rfl hmT huT hr (show LamX.LamS (defScope sRefused) _ from LamX.lamS_by (by decide +kernel)) rfl (fun _ _ _ _ _ => rfl) (fun A outer s H E f c' hr2 => pe_call (E := E) GI (hr2.mono (by decide)) (by rfl) mI kI bI .nil (passes_call (takes_of rfl rfl rfl rfl) fun _ _ _ _ h => h) (pa_cons (pv 0) (pa_cons (pv 1) (pa_cons (pv 5) (pa_cons pe_non (pa_cons pe_non pa_nil)))))))
          (pv 4) (nomark _)) (pss_one (ps_ret pe_bl)) pss_nil)
        (pss_one (ps_if (pt_cmpR (op_neD hu) (LamX.pe_lamcall (x := "_law_tried") (a := "_law_call") (T := Tb) (TT := TTr c) (k := 5) (by rfl) mT kT lT hcT bT scTried rfl (Or.inl rfl) (tried_gives hgd hun T S) TB rfl hmT huT hr (show LamX.LamS (defScope sRefused) _ from LamX.lamS_by (by decide +kernel)) rfl (fun _ _ _ _ _ => rfl) (fun A outer s H E f c' hr2 => pe_call (E := E) GG (hr2.mono (by decide)) (by rfl) mG kG bG .nil (passes_call (takes_of rfl rfl rfl rfl) fun _ _ _ _ h => h) (pa_cons (pv 0) (pa_cons (pv 1) (pa_cons (pv 2) (pa_cons (pv 5) (pa_cons pe_non pa_nil)))))))
          (pv 4) (nomark _)) (pss_one (ps_ret pe_bl)) pss_nil)))))))
      (pss_one (ps_ret pe_bl)))), ?_⟩
    refine ⟨by show 5 ≤ sizeLine; decide, fun p1 hp1 => ⟨p1, rfl, ⟨_, SqL.of upd_same⟩, ?_⟩⟩
    have ods1 : Ods 1 6 [.non, .int 0, .int 7, .bl true, .str "2"] := ods_cons .non (by simp [oddL]) rfl (ods_cons (.int 0) (by simp [oddL]) (within_lo (by decide)) (ods_cons (.int 7) (by simp [oddL]) (within_hi (by decide)) (ods_cons (.bl true) (by simp [oddL]) rfl (ods_cons (.str "2") (by simp [oddL]) rfl ods_nil))))
    refine for_list (K := K) (a := p1) (xs := [.non, .int 0, .int 7, .bl true, .str "2"]) (fun i σ G => (∃ x4 x5, σ = [some (.int n), some (.str x), some (.int b), some (.int s), x4, x5]) ∧ LamX.ExtN (upd H p1 (.lst [.non, .int 0, .int 7, .bl true, .str "2"])) G ∧ LamX.Tabs Tb G) ⟨⟨_, _, rfl⟩, LamX.ExtN.refl _, hT.ext (same_up hp1)⟩ (fun i σ G _ h => SqL.of (h.2.1 _ _ upd_same fun _ q => by cases q)) ?_ ?_
    · rintro i v σ G hv ⟨⟨x4, x5, rfl⟩, e1, t1⟩
      obtain ⟨e, f, m, nn⟩ := ods1 v (List.mem_of_getElem? hv)
      refine if_tried (K := K) (w := "count") (C := c.n) (e := e) (v := v) (.inr (.inl ⟨rfl, rfl⟩)) t1 (fun E H1 Q' _ r => ⟨v, rfl, v, .non, .non, rfl, ck_oddE f nn r⟩) (fun H1 _ => .fl m f) (fun H1 Q' _ q' => due_read rfl (.fl m f) q') fun G1 e2 t2 => ?_
      exact if_tried (K := K) (w := "count") (C := c.n) (e := e) (v := v) (.inr (.inl ⟨rfl, rfl⟩)) t2 (fun E H1 Q' _ r => ⟨v, rfl, v, .non, .non, .non, .non, rfl, ck_oddE f nn r⟩) (fun H1 _ => .fl m f) (fun H1 Q' _ q' => due_read rfl (.fl m f) q') fun G2 e3 t3 => ⟨⟨_, _, rfl⟩, (e1.trans e2).trans e3, t3⟩
    rintro σ G1 ⟨⟨x4, x5, rfl⟩, e1, t1⟩
    have E1 := (LamX.ExtN.of (same_up (o := .lst [.non, .int 0, .int 7, .bl true, .str "2"]) hp1)).trans e1
    refine ⟨by show 1 ≤ sizeLine; decide, fun lf hlf => ⟨by show 5 ≤ sizeLine; decide, fun p2 hp2 => ⟨p2, rfl, ⟨_, SqL.of upd_same⟩, ?_⟩⟩⟩
    have s2 : Same G1 (upd (upd G1 lf (.lst [.str "free"])) p2 (.lst [.non, .str "Free", .str "", .int 5, .ref lf])) := (same_up hlf).trans (same_up hp2)
    have hfree : upd (upd G1 lf (.lst [.str "free"])) p2 (.lst [.non, .str "Free", .str "", .int 5, .ref lf]) lf = some (.lst [.str "free"]) := same_up hp2 _ _ upd_same
    have hp2' : upd (upd G1 lf (.lst [.str "free"])) p2 (.lst [.non, .str "Free", .str "", .int 5, .ref lf]) p2 = some (.lst [.non, .str "Free", .str "", .int 5, .ref lf]) := upd_same
    generalize upd (upd G1 lf (.lst [.str "free"])) p2 (.lst [.non, .str "Free", .str "", .int 5, .ref lf]) = G2 at s2 hfree hp2' ⊢
    have ways : ∀ v ∈ [V.non, .str "Free", .str "", .int 5, .ref lf], ∃ e o, (∀ H1, LamX.ExtN G2 H1 → OdV H1 v e ∧ Rl K H1 v o) ∧ okRule o = false := by
      intro v hv
      simp only [List.mem_cons, List.not_mem_nil, or_false] at hv
      rcases hv with rfl | rfl | rfl | rfl | rfl
      · exact ⟨.none, none, fun H1 _ => ⟨.fl (by simp [oddL]) .non, .no (.base .non) (kit_ty (show kitB "NoneType" "str" = some false from by decide +kernel))⟩, rfl⟩
      · exact ⟨.str "Free", some "Free", fun H1 _ => ⟨.fl (by simp [oddL]) (.str _), .str _⟩, by decide +kernel⟩
      · exact ⟨.str "", some "", fun H1 _ => ⟨.fl (by simp [oddL]) (.str _), .str _⟩, by decide +kernel⟩
      · exact ⟨.int 5, none, fun H1 _ => ⟨.fl (by simp [oddL]) (.int _), .no (.base (.int 5)) (kit_ty (show kitB "int" "str" = some false from by decide +kernel))⟩, rfl⟩
      · exact ⟨.list [.str "free"], none, fun H1 x => ⟨OdV.ext (.inr (.inr ⟨lf, rfl, rfl, hfree⟩)) x, .no (.base (.lst (x _ _ hfree fun _ q => by cases q))) (kit_ty (show kitB "list" "str" = some false from by decide +kernel))⟩, rfl⟩
    refine for_list (K := K) (a := p2) (xs := [.non, .str "Free", .str "", .int 5, .ref lf]) (fun i σ G => (∃ x4 x5, σ = [some (.int n), some (.str x), some (.int b), some (.int s), x4, x5]) ∧ LamX.ExtN G2 G ∧ LamX.Tabs Tb G) ⟨⟨_, _, rfl⟩, LamX.ExtN.refl _, t1.ext s2⟩ (fun i σ G _ h => SqL.of (h.2.1 _ _ hp2' fun _ q => by cases q)) ?_ ?_
    · rintro i v σ G hv ⟨⟨x4, x5, rfl⟩, e2, t2⟩
      obtain ⟨e, o, hod, hno⟩ := ways v (List.mem_of_getElem? hv)
      have rl : ∀ (E : XK) (H1 : Hp) (g : Int → Str → Int → Int → Prop) (v3 v4 : V), LamX.ExtN G H1 → Rais c.w v H1 E → Cw K c.n c.w c.p (.int n) v v3 v4 H1 E g := fun E H1 g v3 v4 x r => by
        refine ⟨_, ck_int R.n0 R.n1 ?_⟩
        intro _ e _ _; cases e
        exact ⟨o, (hod H1 (e2.trans x)).2, (fun z => by rw [hno] at z; cases z), fun _ => r⟩
      refine if_tried (K := K) (w := "way") (C := c.w) (e := e) (v := v) (.inr (.inr (.inl ⟨rfl, rfl⟩))) t2 (fun E H1 Q' x r => ⟨_, rfl, v, rfl, _, v, .non, .non, .non, rfl, rl E H1 _ _ _ x r⟩) (fun H1 x => (hod H1 (e2.trans x)).1) (fun H1 Q' x q' => due_read rfl (hod H1 (e2.trans x)).1 q') fun G3 e3 t3 => ?_
      exact if_tried (K := K) (w := "way") (C := c.w) (e := e) (v := v) (.inr (.inr (.inl ⟨rfl, rfl⟩))) t3 (fun E H1 Q' x r => ⟨_, rfl, v, rfl, _, v, .non, .non, .non, rfl, rl E H1 _ _ _ (e3.trans x) r⟩) (fun H1 x => (hod H1 ((e2.trans e3).trans x)).1) (fun H1 Q' x q' => due_read rfl (hod H1 ((e2.trans e3).trans x)).1 q') fun G4 e4 t4 => ⟨⟨_, _, rfl⟩, (e2.trans e3).trans e4, t4⟩
    rintro σ G3 ⟨⟨x4, x5, rfl⟩, e2, t2⟩
    have E2 := (E1.trans (LamX.ExtN.of s2)).trans e2
    refine ⟨_, _, rfl, rfl, _, rfl, by show 5 ≤ sizeLine; decide, fun p3 hp3 => ⟨p3, rfl, ⟨_, SqL.of upd_same⟩, ?_⟩⟩
    have ods3 : Ods 0 (n - 1) [.non, .int (0 - 1), .int n, .bl true, .str "0"] := ods_cons .non (by simp [oddL]) rfl (ods_cons (e := .int (-1)) (show Fl (V.int ((0 : Int) - 1)) (PyData.int (-1)) from (show ((0 : Int) - 1) = -1 from by decide) ▸ Fl.int (-1)) (by simp [oddL]) (within_lo (by decide)) (ods_cons (.int n) (odd_six R.n0 R.n1) (within_hi (by omega)) (ods_cons (.bl true) (by simp [oddL]) rfl (ods_cons (.str "0") (by simp [oddL]) rfl ods_nil))))
    refine for_list (K := K) (a := p3) (xs := [.non, .int (0 - 1), .int n, .bl true, .str "0"]) (fun i σ G => (∃ x4 x5, σ = [some (.int n), some (.str x), some (.int b), some (.int s), x4, x5]) ∧ LamX.ExtN (upd G3 p3 (.lst [.non, .int (0 - 1), .int n, .bl true, .str "0"])) G ∧ LamX.Tabs Tb G) ⟨⟨_, _, rfl⟩, LamX.ExtN.refl _, t2.ext (same_up hp3)⟩ (fun i σ G _ h => SqL.of (h.2.1 _ _ upd_same fun _ q => by cases q)) ?_ ?_
    · rintro i v σ G hv ⟨⟨x4, x5, rfl⟩, e3, t3⟩
      obtain ⟨e, f, m, nn⟩ := ods3 v (List.mem_of_getElem? hv)
      refine ⟨v, rfl, true, 0, v, e, rfl, f.dv, (odd_ok m).1, by show 2 ≤ sizeLine; decide, fun pd npd => ?_⟩
      have s4 : Same G (upd G pd (outL "page" e)) := same_up npd
      have t4 := t3.ext s4
      have du : ∀ H1, LamX.ExtN (upd G pd (outL "page" e)) H1 → H1 pd = some (outL "page" e) := fun H1 x => x _ _ upd_same fun _ q => by cases q
      refine if_tried (K := K) (w := "page") (C := c.p) (e := e) (v := v) (.inr (.inr (.inr ⟨rfl, rfl⟩))) t4 (fun E H1 Q' _ r => ⟨_, rfl, v, rfl, _, v, .non, rfl, _, ck_int R.n0 R.n1 fun _ e _ _ => by cases e; exact ck_oddE f nn r⟩) (fun H1 _ => .fl m f) (fun H1 Q' x q' => ⟨_, rfl, q' pd H1 (Same.refl _) (du H1 x)⟩) fun G5 e5 t5 => ?_
      refine if_tried (K := K) (w := "page") (C := c.p) (e := e) (v := v) (.inr (.inr (.inr ⟨rfl, rfl⟩))) t5 (fun E H1 Q' _ r => ⟨_, rfl, _, rfl, v, rfl, _, _, v, rfl, _, ck_int R.n0 R.n1 fun _ e _ _ => by cases e; exact ⟨_, ck_int R.b0 (by omega) fun _ e _ _ => by cases e; exact ck_oddE f nn r⟩⟩) (fun H1 _ => .fl m f) (fun H1 Q' x q' => ⟨_, rfl, q' pd H1 (Same.refl _) (du H1 (e5.trans x))⟩) fun G6 e6 t6 => ?_
      refine if_tried (K := K) (w := "page") (C := c.p) (e := e) (v := v) (.inr (.inr (.inr ⟨rfl, rfl⟩))) t6 (fun E H1 Q' _ r => ⟨_, rfl, _, rfl, v, rfl, _, _, v, .non, .non, rfl, _, ck_int R.n0 R.n1 fun _ e _ _ => by cases e; exact ⟨some x, .str x, (fun _ _ e _ => by cases e; exact ck_oddE f nn r), fun z => by rw [R.ok] at z; cases z⟩⟩) (fun H1 _ => .fl m f) (fun H1 Q' x q' => ⟨_, rfl, q' pd H1 (Same.refl _) (du H1 ((e5.trans e6).trans x))⟩) fun G7 e7 t7 => ?_
      exact if_tried (K := K) (w := "page") (C := c.p) (e := e) (v := v) (.inr (.inr (.inr ⟨rfl, rfl⟩))) t7 (fun E H1 Q' _ r => ⟨_, rfl, _, rfl, _, rfl, v, rfl, _, _, _, v, .non, rfl, _, ck_int R.n0 R.n1 fun _ e _ _ => by cases e; exact ⟨some x, .str x, (fun _ _ e _ => by cases e; exact ⟨_, ck_int R.b0 (by omega) fun _ e _ _ => by cases e; exact ck_oddE f nn r⟩), fun z => by rw [R.ok] at z; cases z⟩⟩) (fun H1 _ => .fl m f) (fun H1 Q' x q' => ⟨_, rfl, q' pd H1 (Same.refl _) (du H1 (((e5.trans e6).trans e7).trans x))⟩) fun G8 e8 t8 => ⟨⟨_, _, rfl⟩, (((e3.trans (LamX.ExtN.of s4)).trans e5).trans (e6.trans e7)).trans e8, t8⟩
    rintro σ G4 ⟨⟨x4, x5, rfl⟩, e3, t3⟩
    exact q G4 ((E2.trans (LamX.ExtN.of (same_up hp3))).trans e3) t3
end
end Pl

namespace Pl
open L2 PySem PySem.Spec PyProof.Rows
theorem shown_none : PyData.shown .none = "None" := by decide +kernel
/-- m is wrong wherever it stands -/
def Wr (n : Int) (x : Str) (b : Int) (m : Mo) : Prop := ∀ last own, 0 ≤ last → wrong n x b last own m = true
theorem firstW_app {n : Int} {x : Str} {b : Int} (n0 : 1 ≤ n) (n1 : n ≤ 6) (b0 : 0 ≤ b) (b1 : b < n) {m : Mo} {ms : List Mo} (hm : Wr n x b m) : ∀ (ps : List (Int × Int)) (last own : Int), 0 ≤ own → own < n → 0 ≤ last → allLet n x b last own ps = true → firstW n x b last own (ps.map mo ++ m :: ms) 0 = some ps.length
  | [], last, own, _, _, l0, _ => by
    show (if wrong n x b last own m = true then some 0 else _) = some 0
    rw [if_pos (hm last own l0)]
  | p :: ps, last, own, o0, o1, l0, h => by
    have h' : (okStep n x b last own p && allLet n x b p.1 p.2 ps) = true := h
    rw [Bool.and_eq_true] at h'
    have e := h'.1
    rw [step_eq n0 n1 b0 b1 o0 o1 l0] at e
    have ok := h'.1
    unfold okStep at ok
    simp only [Bool.and_eq_true, decide_eq_true_eq] at ok; skip
    show (if wrong n x b last own (mo p) = true then some 0 else firstW n x b p.1 p.2 (ps.map mo ++ m :: ms) (0 + 1)) = some (ps.length + 1)
    rw [if_neg (by simpa using e), firstW_shift, firstW_app n0 n1 b0 b1 hm ps p.1 p.2 ok.1.2.1 ok.1.2.2 (by omega) h'.2]
    rfl
theorem Mv.ext {K : PySem.W.Frag} {H G : Hp} {v : V} {m : Mo} (h : Mv K H v m) (e : LamX.ExtN H G) : Mv K G v m := by
  cases h with
  | flat f => exact .flat f
  | lst h => exact .lst (e _ _ h fun _ q => by cases q)
  | len h n => exact .len (e _ _ h fun _ q => by cases q) n
  | pr h fx fy => exact .pr (e _ _ h fun _ q => by cases q) fx fy
def spOddR (Tb : TbL) : Sp := fun vs H Q _ => ∃ (n b s : Int) (x : Str) (a : Addr) (us : List V) (ps : List (Int × Int)), vs = [.int n, .str x, .int b, .int s, .ref a] ∧ Rw n b s x ∧ H a = some (.lst us) ∧ PrL H us ps ∧ us.length ≤ 8 ∧ LamX.Tabs Tb H ∧ ∀ H', LamX.ExtN H H' → LamX.Tabs Tb H' → Q (.bl true) H'
abbrev nO : List Str := ["_law_size", "_law_way", "_law_begin", "_law_spot", "_law_steps", "_law_good", "_law_odds", "_law_odd", "_law_rows"]
section
variable {P : Program} {K : PySem.W.Frag} {w : World} {base : Heap} {mg : Str → Option Value} {c : Four} {cd Pt : Addr} {Tb : TbL}
theorem scOddR : FnScope nO psA (defScope sOddR) := ⟨rfl, rfl, rfl, by decide +kernel, rfl, by decide +kernel, by decide +kernel⟩
theorem ok_oddR {f gT : Addr} {fd fdT : FuncData} (F : FunC K "_law_odd_right" "_law_odd_right" sOddR f cd fd) (T : Cst mg) (S : Tri K mg c) (TB : LamX.TabB base mg cd Pt) (hmT : (Pt, lam2) ∈ Tb) (huT : ∀ p ∈ Tb, p.1 = Pt → p.2 = lam2) (FT : Fun K "_law_tried" "_law_tried" sTried gT fdT) (mT : mg "_law_tried" = some (.ref gT)) (bT : Binds K fdT ["_law_call"] [])
    (DI : DfX P w K mg base 5 "is_let" psF (spIsLet K c.n c.w c.p)) (DG : DfX P w K mg base 5 "sights" psF (spSights K c.n c.w c.p c.m)) (DA : Df P w K mg base 3 "_law_all_let" psA spAll) : FnG P w K mg base 8 f fd psA (spOddR Tb) := by
  obtain ⟨oc, od, kV, doc, pm, an, cdv, ct, osl, rfl, lT, hcT⟩ := FT.ex
  have kT := FT.kp
  obtain ⟨gI, fdI, GI, mI, kI, bI⟩ := DI.ex
  obtain ⟨gG, fdG, GG, mG, kG, bG⟩ := DG.ex
  obtain ⟨gA, fdA, GA, mA, kA, bA⟩ := DA.ex
  refine okC F scOddR (fun vs H Q E h => ?_) (fun A outer s H vs Q E hgd hr h => ?_)
  · obtain ⟨n, b, s, x, a, us, ps, rfl, _⟩ := h
    rfl
  · obtain ⟨n, b, s, x, a, us, ps, rfl, R, ha, hp, lu, hT, q⟩ := h
    have hu : (A.deeper (envOfC "_law_odd_right" (defScope sOddR) ‹Shared›.heap.objs.size f (.ref cd))).units + 64 < cLine := by
      have := hr.un
      omega
    have hun : (A.deeper (envOfC "_law_odd_right" (defScope sOddR) ‹Shared›.heap.objs.size f (.ref cd))).units + 128 < cLine := by
      have := hr.un
      omega
    have b1 := R.b1
    have rest : ∃ tr, PSs (cxOf CX0 P w K mg base nO "_law_odd_right" (defScope sOddR) f (.ref cd) A outer ‹Shared› H E).nox (match defBody sOddR with
        | _ :: r => r
        | _ => []) tr ∧
        ∀ (D : Ends) (G : Hp) (g : Addr) (gus : List V) (gps : List (Int × Int)) (x6 x7 x8 : Option V), G g = some (.lst gus) → PrL G gus gps → allLet n x b 0 s gps = true → gus.length ≤ 8 → LamX.Tabs Tb G → (∀ G', LamX.ExtN G G' → LamX.Tabs Tb G' → D.rt (.bl true) G') →
          tr D [some (.int n), some (.str x), some (.int b), some (.int s), some (.ref a), some (.ref g), x6, x7, x8] G := by
      refine ⟨_, pss_cons (ps_for PassesOwn.never rfl (pi_list (pe_lst (pa_cons pe_non (pa_cons pe_int (pa_cons pe_str (pa_cons pe_dnewK pa_nil)))))) (pg_name (i := 7) scOddR.nd rfl (Or.inr rfl))
        (pss_cons (ps_if (pt_val (pe_call (E := fun _ _ _ => False) GI (hr.mono (by decide)) (by rfl) mI kI bI .nil (passes_call takes0 fun _ _ _ _ h => h) (pa_cons (pv 0) (pa_cons (pv 1) (pa_cons (pv 2) (pa_cons (pv 3) (pa_cons (pv 7) pa_nil))))))) (pss_one (ps_ret pe_bl)) pss_nil)
        (pss_one (ps_if (pt_cmpR (op_neD hu) (LamX.pe_lamcall (x := "_law_tried") (a := "_law_call") (T := Tb) (TT := TTr c) (k := 5) (by rfl) mT kT lT hcT bT scTried rfl (Or.inl rfl) (tried_gives hgd hun T S) TB rfl hmT huT hr (show LamX.LamS (defScope sOddR) _ from LamX.lamS_by (by decide +kernel)) rfl (fun _ _ _ _ _ => rfl) (fun A outer s H E f c' hr2 => pe_call (E := E) GG (hr2.mono (by decide)) (by rfl) mG kG bG .nil (passes_call (takes_of rfl rfl rfl rfl) fun _ _ _ _ h => h) (pa_cons (pv 0) (pa_cons (pv 1) (pa_cons (pv 2) (pa_cons (pv 3) (pa_cons (pv 7) pa_nil)))))))
          (pe_lst (pa_cons pe_str (pa_cons pe_str pa_nil))) (nomark _)) (pss_one (ps_ret pe_bl)) pss_nil))))
      (pss_cons (ps_set (i := 6) scOddR.nd rfl (Or.inl rfl) (pe_lst (pa_cons pe_non (pa_cons (pe_tup (pa_cons pe_int pa_nil)) (pa_cons (pe_lst (pa_cons pe_int (pa_cons pe_int pa_nil))) (pa_cons (pe_tup (pa_cons pe_bl (pa_cons pe_int pa_nil))) (pa_cons (pe_tup (pa_cons pe_int (pa_cons pe_bl pa_nil))) (pa_cons (pe_tup (pa_cons pe_str (pa_cons pe_int pa_nil))) (pa_cons (pe_tup (pa_cons pe_int (pa_cons (pv 0) pa_nil))) (pa_cons (pe_tup (pa_cons (pe_op op_sub pe_int pe_int) (pa_cons pe_int pa_nil))) (pa_cons (pe_tup (pa_cons pe_int (pa_cons (pe_op op_sub pe_int pe_int) pa_nil))) pa_nil)))))))))))
      (pss_cons (ps_for PassesOwn.never rfl (pi_list (pe_op op_cat (pv 6) (pe_lst (pa_cons (pe_tup (pa_cons (pe_op op_sub (pv 0) pe_int) (pa_cons (pv 3) pa_nil))) (pa_cons (pe_tup (pa_cons pe_int (pa_cons pe_int (pa_cons pe_int pa_nil)))) pa_nil))))) (pg_name (i := 7) scOddR.nd rfl (Or.inr rfl))
        (pss_cons (ps_set (i := 8) scOddR.nd rfl (Or.inr rfl) (pe_op op_cat (pv 5) (pe_lst (pa_cons (pv 7) (pa_cons pe_non pa_nil)))))
        (pss_cons (ps_if (pt_val (pe_call (E := fun _ _ _ => False) GI (hr.mono (by decide)) (by rfl) mI kI bI .nil (passes_call takes0 fun _ _ _ _ h => h) (pa_cons (pv 0) (pa_cons (pv 1) (pa_cons (pv 2) (pa_cons (pv 3) (pa_cons (pv 8) pa_nil))))))) (pss_one (ps_ret pe_bl)) pss_nil)
        (pss_one (ps_if (pt_cmpR (op_neD hu) (LamX.pe_lamcall (x := "_law_tried") (a := "_law_call") (T := Tb) (TT := TTr c) (k := 5) (by rfl) mT kT lT hcT bT scTried rfl (Or.inl rfl) (tried_gives hgd hun T S) TB rfl hmT huT hr (show LamX.LamS (defScope sOddR) _ from LamX.lamS_by (by decide +kernel)) rfl (fun _ _ _ _ _ => rfl) (fun A outer s H E f c' hr2 => pe_call (E := E) GG (hr2.mono (by decide)) (by rfl) mG kG bG .nil (passes_call (takes_of rfl rfl rfl rfl) fun _ _ _ _ h => h) (pa_cons (pv 0) (pa_cons (pv 1) (pa_cons (pv 2) (pa_cons (pv 3) (pa_cons (pv 8) pa_nil)))))))
          (pe_lst (pa_cons pe_str (pa_cons (pe_callB (call_repr hgd hu) (by rfl) T.rpr (by decide +kernel) (pa_cons (pe_callB call_len_seq (by rfl) T.len PySem.boot_len (pa_cons (pv 5) pa_nil)) pa_nil)) pa_nil))) (nomark _)) (pss_one (ps_ret pe_bl)) pss_nil)))))
      (pss_one (ps_ret pe_bl)))), ?_⟩
      intro D G g gus gps x6 x7 x8 hg hgp hall lg t0 done
      refine fun d0 hd0 => ⟨by show 4 ≤ sizeLine; decide, fun p1 hp1 => ⟨p1, rfl, ⟨_, SqL.of upd_same⟩, ?_⟩⟩
      generalize hG1 : upd _ p1 _ = G1
      have s1 : Same G G1 := by rw [← hG1]; exact (same_up hd0).trans (same_up hp1)
      have f1 : G1 p1 = some (.lst [.non, .int 5, .str "x", .ref d0]) := by rw [← hG1]; exact upd_same
      have fd0 : G1 d0 = some (.dK []) := by rw [← hG1]; exact same_up hp1 _ _ upd_same
      have t1 := t0.ext s1
      have mv0 : ∀ v ∈ [V.non, .int 5, .str "x", .ref d0], ∀ H1, LamX.ExtN G1 H1 → Mvs K H1 v none := by
        intro v hv H1 e
        simp only [List.mem_cons, List.not_mem_nil, or_false] at hv
        rcases hv with rfl | rfl | rfl | rfl
        · exact .no (fun _ _ => .base .non) (kit_ty (show kitB "NoneType" "list" = some false from by decide +kernel)) (kit_ty (show kitB "NoneType" "tuple" = some false from by decide +kernel))
        · exact .no (fun _ _ => .base (.int 5)) (kit_ty (show kitB "int" "list" = some false from by decide +kernel)) (kit_ty (show kitB "int" "tuple" = some false from by decide +kernel))
        · exact .no (fun _ _ => .base (.str _)) (kit_ty (show kitB "str" "list" = some false from by decide +kernel)) (kit_ty (show kitB "str" "tuple" = some false from by decide +kernel))
        · exact .no (fun F s => .base (.dK (s _ _ (e _ _ fd0 fun _ q => by cases q)))) (kit_ty (show kitB "dict" "list" = some false from by decide +kernel)) (kit_ty (show kitB "dict" "tuple" = some false from by decide +kernel))
      refine for_list (K := K) (a := p1) (xs := [.non, .int 5, .str "x", .ref d0]) (fun i σ F => (∃ y7 y8, σ = [some (.int n), some (.str x), some (.int b), some (.int s), some (.ref a), some (.ref g), x6, y7, y8]) ∧ LamX.ExtN G1 F ∧ LamX.Tabs Tb F) ⟨⟨_, _, rfl⟩, LamX.ExtN.refl _, t1⟩ (fun i σ F _ h => SqL.of (h.2.1 _ _ f1 fun _ q => by cases q)) ?_ ?_
      · rintro i v σ F hv ⟨⟨y7, y8, rfl⟩, e1, u1⟩
        have mv := mv0 v (List.mem_of_getElem? hv)
        refine ⟨_, rfl, _, rfl, _, rfl, _, rfl, _, rfl, _, _, _, _, _, rfl, cw_ok R ⟨none, mv F e1, fun F2 s2 => ⟨_, rfl, iteF ?_⟩⟩⟩
        have e2 := e1.trans (LamX.ExtN.of s2)
        refine if_tried (K := K) (w := "moves") (C := c.m) (e := .none) (v := .non) (.inl ⟨rfl, rfl⟩) (u1.ext s2) (fun E H1 Q' y r => ⟨_, rfl, _, rfl, _, rfl, _, rfl, _, rfl, _, _, _, _, _, rfl, cw_ok R (.inl ⟨mv H1 (e2.trans y), r⟩)⟩) (fun H1 _ => .fl (by simp [oddL]) .non) (fun H1 Q' _ q' => ⟨by show 2 ≤ sizeLine; decide, fun p2 hp2 => q' p2 _ (same_up hp2) ?_⟩) fun F3 e3 u3 => ⟨⟨_, _, rfl⟩, e2.trans e3, u3⟩
        show upd H1 p2 (.lst [.str "moves", .str "None"]) p2 = some (.lst [.str "moves", .str (PyData.shown .none)])
        rw [shown_none]
        exact upd_same
      rintro σ G2 ⟨⟨y7, y8, rfl⟩, e1, tb2⟩
      have hg2 : G2 g = some (.lst gus) := e1 _ _ (s1 _ _ hg) fun _ q => by cases q
      have hgp2 := (hgp.same s1).ext e1
      refine ⟨by show 1 ≤ sizeLine; decide, fun t1 ht1 => ?_⟩
      generalize hG3 : upd _ t1 _ = G3
      have s3 : Same G2 G3 := by rw [← hG3]; exact same_up ht1
      have f3 : G3 t1 = some (.tup [.int 0]) := by rw [← hG3]; exact upd_same
      refine ⟨by show 2 ≤ sizeLine; decide, fun t2 ht2 => ?_⟩
      generalize hG4 : upd _ t2 _ = G4
      have s4 : Same G3 G4 := by rw [← hG4]; exact same_up ht2
      have f4 : G4 t2 = some (.lst [.int 0, .int 0]) := by rw [← hG4]; exact upd_same
      refine ⟨by show 2 ≤ sizeLine; decide, fun t3 ht3 => ?_⟩
      generalize hG5 : upd _ t3 _ = G5
      have s5 : Same G4 G5 := by rw [← hG5]; exact same_up ht3
      have f5 : G5 t3 = some (.tup [.bl true, .int 0]) := by rw [← hG5]; exact upd_same
      refine ⟨by show 2 ≤ sizeLine; decide, fun t4 ht4 => ?_⟩
      generalize hG6 : upd _ t4 _ = G6
      have s6 : Same G5 G6 := by rw [← hG6]; exact same_up ht4
      have f6 : G6 t4 = some (.tup [.int 0, .bl true]) := by rw [← hG6]; exact upd_same
      refine ⟨by show 2 ≤ sizeLine; decide, fun t5 ht5 => ?_⟩
      generalize hG7 : upd _ t5 _ = G7
      have s7 : Same G6 G7 := by rw [← hG7]; exact same_up ht5
      have f7 : G7 t5 = some (.tup [.str "0", .int 0]) := by rw [← hG7]; exact upd_same
      refine ⟨_, rfl, by show 2 ≤ sizeLine; decide, fun t6 ht6 => ?_⟩
      generalize hG8 : upd _ t6 _ = G8
      have s8 : Same G7 G8 := by rw [← hG8]; exact same_up ht6
      have f8 : G8 t6 = some (.tup [.int 0, .int n]) := by rw [← hG8]; exact upd_same
      refine ⟨_, _, rfl, rfl, by show 2 ≤ sizeLine; decide, fun t7 ht7 => ?_⟩
      generalize hG9 : upd _ t7 _ = G9
      have s9 : Same G8 G9 := by rw [← hG9]; exact same_up ht7
      have f9 : G9 t7 = some (.tup [.int (0 - 1), .int 0]) := by rw [← hG9]; exact upd_same
      refine ⟨_, _, rfl, rfl, by show 2 ≤ sizeLine; decide, fun t8 ht8 => ?_⟩
      generalize hG10 : upd _ t8 _ = G10
      have s10 : Same G9 G10 := by rw [← hG10]; exact same_up ht8
      have f10 : G10 t8 = some (.tup [.int 0, .int (0 - 1)]) := by rw [← hG10]; exact upd_same
      refine ⟨by show 9 ≤ sizeLine; decide, fun p6 hp6 => ?_⟩
      generalize hG11 : upd _ p6 _ = G11
      have s11 : Same G10 G11 := by rw [← hG11]; exact same_up hp6
      have f11 : G11 p6 = some (.lst [.non, .ref t1, .ref t2, .ref t3, .ref t4, .ref t5, .ref t6, .ref t7, .ref t8]) := by rw [← hG11]; exact upd_same
      refine ⟨_, rfl, ?_⟩
      refine ⟨_, rfl, _, _, rfl, rfl, _, rfl, by show 2 ≤ sizeLine; decide, fun t9 ht9 => ?_⟩
      generalize hG12 : upd _ t9 _ = G12
      have s12 : Same G11 G12 := by rw [← hG12]; exact same_up ht9
      have f12 : G12 t9 = some (.tup [.int (n - 1), .int s]) := by rw [← hG12]; exact upd_same
      refine ⟨by show 3 ≤ sizeLine; decide, fun t10 ht10 => ?_⟩
      generalize hG13 : upd _ t10 _ = G13
      have s13 : Same G12 G13 := by rw [← hG13]; exact same_up ht10
      have f13 : G13 t10 = some (.tup [.int 0, .int 0, .int 0]) := by rw [← hG13]; exact upd_same
      refine ⟨by show 2 ≤ sizeLine; decide, fun p7 hp7 => ?_⟩
      generalize hG14 : upd _ p7 _ = G14
      have s14 : Same G13 G14 := by rw [← hG14]; exact same_up hp7
      have f14 : G14 p7 = some (.lst [.ref t9, .ref t10]) := by rw [← hG14]; exact upd_same
      refine ⟨p6, p7, _, _, rfl, rfl, s14 _ _ (s13 _ _ (s12 _ _ f11)), f14, by show 11 ≤ sizeLine; decide, fun p8 hp8 => ?_⟩
      generalize hG15 : upd _ p8 _ = G15
      have s15 : Same G14 G15 := by rw [← hG15]; exact same_up hp8
      have f15 : G15 p8 = some (.lst [.non, .ref t1, .ref t2, .ref t3, .ref t4, .ref t5, .ref t6, .ref t7, .ref t8, .ref t9, .ref t10]) := by rw [← hG15]; exact upd_same
      have w_t1 : G15 t1 = some (.tup [.int 0]) := (s4.trans (s5.trans (s6.trans (s7.trans (s8.trans (s9.trans (s10.trans (s11.trans (s12.trans (s13.trans (s14.trans s15))))))))))) _ _ f3
      have w_t2 : G15 t2 = some (.lst [.int 0, .int 0]) := (s5.trans (s6.trans (s7.trans (s8.trans (s9.trans (s10.trans (s11.trans (s12.trans (s13.trans (s14.trans s15)))))))))) _ _ f4
      have w_t3 : G15 t3 = some (.tup [.bl true, .int 0]) := (s6.trans (s7.trans (s8.trans (s9.trans (s10.trans (s11.trans (s12.trans (s13.trans (s14.trans s15))))))))) _ _ f5
      have w_t4 : G15 t4 = some (.tup [.int 0, .bl true]) := (s7.trans (s8.trans (s9.trans (s10.trans (s11.trans (s12.trans (s13.trans (s14.trans s15)))))))) _ _ f6
      have w_t5 : G15 t5 = some (.tup [.str "0", .int 0]) := (s8.trans (s9.trans (s10.trans (s11.trans (s12.trans (s13.trans (s14.trans s15))))))) _ _ f7
      have w_t6 : G15 t6 = some (.tup [.int 0, .int n]) := (s9.trans (s10.trans (s11.trans (s12.trans (s13.trans (s14.trans s15)))))) _ _ f8
      have w_t7 : G15 t7 = some (.tup [.int (0 - 1), .int 0]) := (s10.trans (s11.trans (s12.trans (s13.trans (s14.trans s15))))) _ _ f9
      have w_t8 : G15 t8 = some (.tup [.int 0, .int (0 - 1)]) := (s11.trans (s12.trans (s13.trans (s14.trans s15)))) _ _ f10
      have w_t9 : G15 t9 = some (.tup [.int (n - 1), .int s]) := (s13.trans (s14.trans s15)) _ _ f12
      have w_t10 : G15 t10 = some (.tup [.int 0, .int 0, .int 0]) := (s14.trans s15) _ _ f13
      have all15 : Same G2 G15 := (s3.trans (s4.trans (s5.trans (s6.trans (s7.trans (s8.trans (s9.trans (s10.trans (s11.trans (s12.trans (s13.trans (s14.trans s15))))))))))))
      have t15 := tb2.ext all15
      have items : ∀ v ∈ ([.non, .ref t1, .ref t2, .ref t3, .ref t4, .ref t5, .ref t6, .ref t7, .ref t8, .ref t9, .ref t10] : List V), ∃ m, Mv K G15 v m ∧ Wr n x b m := by
        intro v hv
        simp only [List.mem_cons, List.not_mem_nil, or_false] at hv
        rcases hv with rfl | rfl | rfl | rfl | rfl | rfl | rfl | rfl | rfl | rfl | rfl
        · exact ⟨.bad, .flat .non, fun _ _ _ => rfl⟩
        · exact ⟨.bad, .len w_t1 (by decide), fun _ _ _ => rfl⟩
        · exact ⟨.bad, .lst w_t2, fun _ _ _ => rfl⟩
        · exact ⟨_, .pr w_t3 (.bl true) (.int 0), fun _ _ _ => rfl⟩
        · exact ⟨_, .pr w_t4 (.int 0) (.bl true), fun l o _ => by
            show (!(within (.int 0) l (n - 2)) || (!(within (.bool true) 0 (n - 1)) || _) || _) = true
            rw [show within (.bool true) 0 (n - 1) = false from rfl]
            simp⟩
        · exact ⟨_, .pr w_t5 (.str _) (.int 0), fun _ _ _ => rfl⟩
        · exact ⟨_, .pr w_t6 (.int 0) (.int n), fun l o _ => by
            show (!(within (.int 0) l (n - 2)) || (!(within (.int n) 0 (n - 1)) || _) || _) = true
            rw [show within (.int n) 0 (n - 1) = false from within_hi (by omega)]
            simp⟩
        · exact ⟨_, .pr w_t7 (.int _) (.int 0), fun l o hl => by
            show (!(within (.int (0 - 1)) l (n - 2)) || _ || _) = true
            rw [within_lo (by omega)]
            simp⟩
        · exact ⟨_, .pr w_t8 (.int 0) (.int _), fun l o _ => by
            show (!(within (.int 0) l (n - 2)) || (!(within (.int (0 - 1)) 0 (n - 1)) || _) || _) = true
            rw [show within (.int (0 - 1)) 0 (n - 1) = false from within_lo (by omega)]
            simp⟩
        · exact ⟨_, .pr w_t9 (.int _) (.int s), fun l o _ => by
            show (!(within (.int (n - 1)) l (n - 2)) || _ || _) = true
            rw [within_hi (by omega)]
            simp⟩
        · exact ⟨.bad, .len w_t10 (by decide), fun _ _ _ => rfl⟩
      refine ⟨p8, rfl, ⟨_, SqL.of f15⟩, for_list (K := K) (a := p8) (xs := [.non, .ref t1, .ref t2, .ref t3, .ref t4, .ref t5, .ref t6, .ref t7, .ref t8, .ref t9, .ref t10]) (fun i σ F => (∃ y7 y8, σ = [some (.int n), some (.str x), some (.int b), some (.int s), some (.ref a), some (.ref g), some (.ref p6), y7, y8]) ∧ LamX.ExtN G15 F ∧ LamX.Tabs Tb F) ⟨⟨_, _, rfl⟩, LamX.ExtN.refl _, t15⟩ (fun i σ F _ h => SqL.of (h.2.1 _ _ f15 fun _ q => by cases q)) ?_ ?_⟩
      · rintro i v σ F hv ⟨⟨y7, y8, rfl⟩, e2, u2⟩
        obtain ⟨m, hm, hw⟩ := items v (List.mem_of_getElem? hv)
        have hgF : F g = some (.lst gus) := e2 _ _ (all15 _ _ hg2) fun _ q => by cases q
        have hgpF := (hgp2.same all15).ext e2
        refine ⟨_, rfl, _, rfl, by show 2 ≤ sizeLine; decide, fun q1 hq1 => ⟨g, q1, _, _, rfl, rfl, same_up hq1 _ _ hgF, upd_same, ?_, fun q2 hq2 => ?_⟩⟩
        · show gus.length + 2 ≤ sizeLine
          exact Nat.le_of_lt (small1000 (by omega))
        generalize hF2 : upd _ q2 _ = F2
        have v2 : Same F F2 := by rw [← hF2]; exact (same_up hq1).trans (same_up hq2)
        have fr : F2 q2 = some (.lst (gus ++ [v, .non])) := by rw [← hF2]; exact upd_same
        have fw : firstW n x b 0 s (gps.map mo ++ [m, .bad]) 0 = some gps.length := firstW_app R.n0 R.n1 R.b0 R.b1 hw gps 0 s R.s0 R.s1 (Int.le_refl _) hall
        have mvs : ∀ H1, LamX.ExtN F2 H1 → Mvs K H1 (.ref q2) (some (gps.map mo ++ [m, .bad])) := fun H1 y =>
          .lst (y _ _ fr fun _ q => by cases q) (((hgpF.same v2).ext y).mv.app (.cons (((hm.ext e2).same v2).ext y) (.cons (.flat .non) .nil))) (by rw [List.length_append]; show gus.length + 2 ≤ 100; omega)
        have lgp : gps.length ≤ 10 := by
          have := hgpF.len
          omega
        have lb : letB n x b s (some (gps.map mo ++ [m, .bad])) = false := by
          show (firstW n x b 0 s (gps.map mo ++ [m, .bad]) 0).isNone = _
          rw [fw]
          rfl
        refine ⟨_, rfl, _, rfl, _, rfl, _, rfl, _, rfl, _, _, _, _, _, rfl, cw_ok R ⟨_, mvs F2 (LamX.ExtN.refl _), fun F3 s3 => ⟨_, rfl, ?_⟩⟩⟩
        rw [lb]
        refine iteF ?_
        have me := odd_nat lgp
        have x3 := LamX.ExtN.of s3
        refine if_tried (K := K) (w := "moves") (C := c.m) (e := .int (gps.length : Nat)) (v := .int (gps.length : Nat)) (.inl ⟨rfl, rfl⟩) ((u2.ext v2).ext s3) (fun E H1 Q' y r => ⟨_, rfl, _, rfl, _, rfl, _, rfl, _, rfl, _, _, _, _, _, rfl, cw_ok R (.inr ⟨_, mvs H1 (x3.trans y), fun i' hi => ?_, fun hn => ?_⟩)⟩) (fun H1 _ => .fl me (.int _)) (fun H1 Q' y q' => ?_) fun F4 e4 u4 => ⟨⟨_, _, rfl⟩, ((e2.trans (LamX.ExtN.of v2)).trans x3).trans e4, u4⟩
        · rw [fw] at hi
          cases hi
          exact r
        · rw [fw] at hn
          cases hn
        · have hg1 : H1 g = some (.lst gus) := y _ _ (s3 _ _ (v2 _ _ hgF)) fun _ q => by cases q
          refine ⟨_, rfl, g, _, rfl, .inl (SqL.of hg1), true, 0, _, .int (gps.length : Nat), rfl, ?_, (odd_ok me).1, by show 2 ≤ sizeLine; decide, fun p2 hp2 => q' p2 _ (same_up hp2) upd_same⟩
          rw [hgpF.len]
          exact .int _
      · rintro σ F ⟨⟨y7, y8, rfl⟩, e2, u2⟩
        exact done F (((LamX.ExtN.of s1).trans e1).trans ((LamX.ExtN.of all15).trans e2)) u2
    obtain ⟨tr, hrs, rd⟩ := rest
    refine ⟨_, pss_cons (ps_set (i := 5) scOddR.nd rfl (Or.inl rfl) (pe_ifExp (pt_val (pe_call GA (hr.mono (by decide)) (by rfl) mA kA bA .nil pass0 (pa_cons (pv 0) (pa_cons (pv 1) (pa_cons (pv 2) (pa_cons (pv 3) (pa_cons (pv 4) pa_nil))))))) (pv 4) (pe_lst pa_nil))) hrs, ?_⟩
    refine ⟨_, rfl, _, rfl, _, rfl, _, rfl, _, rfl, n, b, s, x, a, us, ps, rfl, R, ha, hp, by omega, fun G1 s1 => ⟨_, rfl, ?_⟩⟩
    cases e : allLet n x b 0 s ps with
    | true => exact iteT ⟨_, rfl, rd _ G1 a us ps _ _ _ (s1 _ _ ha) (hp.same s1) e lu (hT.ext s1) fun G' eN T' => q G' ((LamX.ExtN.of s1).trans eN) T'⟩
    | false => exact iteF ⟨by show 0 ≤ sizeLine; decide, fun g hg => rd _ _ g [] [] _ _ _ upd_same .nil rfl (Nat.zero_le _) ((hT.ext s1).ext (same_up hg)) fun G' eN T' => q G' (((LamX.ExtN.of s1).trans (LamX.ExtN.of (same_up hg))).trans eN) T'⟩
end
end Pl

namespace Pl
open L2 PySem PySem.Spec PyProof.Rows
structure DfG (P : Program) (w : World) (K : PySem.W.Frag) (mg : Str → Option Value) (base : Heap) (k : Nat) (x : Str) (ps : List Str) (sp : Sp) : Prop where
  ex : ∃ (f : Addr) (fd : FuncData), FnG P w K mg base k f fd ps sp ∧ mg x = some (.ref f) ∧ PySem.W.keepIn K (.ref f) = true ∧ Binds K fd ps []
def spLaw (K : PySem.W.Frag) (Tb : TbL) : Sp := fun vs H Q _ => ∃ (a : Addr) (ns : List Int), vs = [.ref a] ∧ SqL K H a (ns.map V.int) ∧ LamX.Tabs Tb H ∧ ∀ H', Q (.bl true) H'
theorem tabs_but {z : Addr} {Tb : TbL} {H G : Hp} (b : But z H G) (s : Src z H) (t : LamX.Tabs Tb H) : LamX.Tabs Tb G := by
  obtain ⟨x, y, hz, _⟩ := s
  intro p hp
  obtain ⟨ps, h1, h2, h3⟩ := t p hp
  have n1 : p.1 ≠ z := fun e => by
    rw [e, hz] at h1
    cases h1
  refine ⟨ps, b _ _ n1 trivial h1, h2, fun pos cv hc => ?_⟩
  obtain ⟨c, e1, e2⟩ := h3 pos cv hc; skip
  have n2 : c ≠ z := fun e => by
    rw [e, hz] at e2
    cases e2
  exact ⟨c, e1, b _ _ n2 trivial e2⟩
theorem ext_but {z : Addr} {H G F : Hp} (e : LamX.ExtN H G) (hz : ∀ b o, H b = some o → (∀ ps, o ≠ .tbl ps) → b ≠ z) (b : But z G F) : LamX.ExtN H F := fun c o h n => b c o (hz c o h n) trivial (e c o h n)
theorem sql_ext {K : PySem.W.Frag} {H G : Hp} {a : Addr} {xs : List V} (e : LamX.ExtN H G) (h : SqL K H a xs) : SqL K G a xs := by
  rcases h with (h | ⟨o, h⟩) | h; skip
  · exact .inl (.inl (e _ _ h fun _ q => by cases q))
  · exact .inl (.inr ⟨o, e _ _ h fun _ q => by cases q⟩)
  · exact .inr h
theorem Src.ext {z : Addr} {H G : Hp} (h : Src z H) (e : LamX.ExtN H G) : Src z G := by
  obtain ⟨x, y, hz, r⟩ := h
  exact ⟨x, y, e _ _ hz (fun _ q => by cases q), r⟩
theorem lay_ints : ∀ ns : List Int, PyData.canLayAll0 (ns.map PyData.int) = true ∧ PyData.depthAll (ns.map PyData.int) ≤ 1
  | [] => ⟨by simp [PyData.canLayAll0], by simp [PyData.depthAll]⟩
  | n :: ns => by
    obtain ⟨h1, h2⟩ := lay_ints ns
    refine ⟨by simp [PyData.canLayAll0, PyData.canLay0, h1], ?_⟩
    simp only [List.map_cons, PyData.depthAll, PyData.depth]; skip
    omega
theorem shaped_li (ns : List Int) : SeqAt.shaped (.list (ns.map PyData.int)) = true := by
  obtain ⟨h1, h2⟩ := lay_ints ns
  show (PyData.canLay0 (.list _) && decide (PyData.depth (.list _) ≤ 64)) = true
  rw [Bool.and_eq_true]
  exact ⟨by simp only [PyData.canLay0]; exact h1, decide_eq_true (by simp only [PyData.depth]; omega)⟩
theorem dp_ints {K : PySem.W.Frag} {H : Hp} : ∀ ns : List Int, DpAll K H (ns.map V.int) (ns.map PyData.int)
  | [] => .nil
  | n :: ns => .cons (.int n) (dp_ints ns)
def rgI (a b : Int) : List Int := (List.range (b - a).toNat).map fun i => a + (i : Nat)
theorem rgV_int (a b : Int) : rgV a b = (rgI a b).map V.int := by
  unfold rgV rgI
  rw [List.map_map]
  rfl
theorem dist_tab : ((List.range 7).all fun n => (List.range 6).all fun b => !(decide (1 ≤ n) && decide (b < n)) || decide ((vis n b n).map (fun p => (p - (b : Int)) % n) = rgI 0 n)) = true := by decide +kernel
theorem dist_eq {n b : Int} (n0 : 1 ≤ n) (n1 : n ≤ 6) (b0 : 0 ≤ b) (b1 : b < n) : (vis n b n).map (fun p => (p - b) % n) = rgI 0 n := by
  obtain ⟨n, rfl⟩ : ∃ k : Nat, n = k := ⟨n.toNat, by omega⟩
  obtain ⟨b, rfl⟩ : ∃ k : Nat, b = k := ⟨b.toNat, by omega⟩
  have h1 := List.all_eq_true.mp dist_tab n (List.mem_range.mpr (by omega))
  have h2 := List.all_eq_true.mp h1 b (List.mem_range.mpr (by omega))
  have c1 : 1 ≤ n := by omega
  have c2 : b < n := by omega
  simp only [c1, c2, decide_true, Bool.and_self, Bool.not_true, Bool.false_or] at h2
  exact of_decide_eq_true h2
theorem vis_bd {n b d p : Int} (n0 : 1 ≤ n) (h : p ∈ vis n b d) : 0 ≤ p ∧ p ≤ n - 1 := by
  obtain ⟨k, _, rfl⟩ := List.mem_map.mp h
  have h1 := Int.emod_nonneg (b + (k : Nat)) (show n ≠ 0 by omega)
  have h2 := Int.emod_lt_of_pos (b + (k : Nat)) (show 0 < n by omega)
  exact ⟨h1, by omega⟩
theorem mapI_get {xs : List Int} {i : Nat} {y : V} (h : (xs.map V.int)[i]? = some y) : ∃ x, xs[i]? = some x ∧ y = .int x := by
  rw [List.getElem?_map] at h
  cases e : xs[i]? with
  | none =>
    rw [e] at h
    cases h
  | some x =>
    rw [e] at h
    exact ⟨x, rfl, (Option.some.inj h).symm⟩
theorem rules_dp {K : PySem.W.Frag} {H : Hp} : DpAll K H rulesV [.str "barred", .str "free", .str "left"] := .cons (.str _) (.cons (.str _) (.cons (.str _) .nil))
theorem rules_shaped : SeqAt.shaped (.tuple [.str "barred", .str "free", .str "left"]) = true := by decide +kernel
section
variable {P : Program} {w : World} {K : PySem.W.Frag} {mg : Str → Option Value} {base : Heap} {c : Four} {Tb : TbL}
abbrev nW : List Str := ["_law_script", "_law_k", "_law_source", "_law_size", "_law_way", "_law_begin", "_law_spot", "_law_order", "_law_turn", "_law_steps", "_law_place"]
theorem scLaw : FnScope nW ["_law_script"] (defScope sLaw) := ⟨rfl, rfl, rfl, by decide +kernel, rfl, by decide +kernel, by decide +kernel⟩
theorem ok_law {f aR : Addr} {fd : FuncData} (F : Fun K "law" "law" sLaw f fd) (T : Cst mg) (hR : mg "RULES" = some (.ref aR)) (sR : ∀ H : Hp, SqT K H aR rulesV) (DP : Df P w K mg base 1 "_law_pool" ["_law_script", "_law_k"] (spPool K)) (DT : Df P w K mg base 1 "_law_take" ["_law_source", "_law_top"] spTake) (DO : Df P w K mg base 2 "_law_one" ["_law_source", "_law_things"] spOne)
    (DV : Df P w K mg base 1 "_law_visited" ["_law_size", "_law_begin", "_law_done"] spVisited) (DD : DfX P w K mg base 4 "distance" ["pages", "begin", "page"] (spDist c.n c.p)) (DW : Df P w K mg base 3 "_law_drawn_moves" psD spDrawn)
    (DM : DfG P w K mg base 8 "_law_moves_right" psA (spMovesR Tb)) (DB : DfG P w K mg base 8 "_law_odd_right" psA (spOddR Tb)) (DF : DfG P w K mg base 8 "_law_values_refused" psV (spRefused Tb)) : FnG P w K mg base 9 f fd ["_law_script"] (spLaw K Tb) := by
  obtain ⟨gP, fdP, GP, mP, kP, bP⟩ := DP.ex
  obtain ⟨gT, fdT, GT, mT, kT, bT⟩ := DT.ex
  obtain ⟨gO, fdO, GO, mO, kO, bO⟩ := DO.ex
  obtain ⟨gV, fdV, GV, mV, kV, bV⟩ := DV.ex
  obtain ⟨gD, fdD, GD, mD, kD, bD⟩ := DD.ex
  obtain ⟨gW, fdW, GW, mW, kW, bW⟩ := DW.ex
  obtain ⟨gM, fdM, GM, mM, kM, bM⟩ := DM.ex
  obtain ⟨gB, fdB, GB, mB, kB, bB⟩ := DB.ex
  obtain ⟨gF, fdF, GF, mF, kF, bF⟩ := DF.ex
  refine okG F scLaw (fun vs H Q E h => ?_) (fun cdv A outer s H vs Q E hgd hr h => ?_)
  · obtain ⟨a, ns, rfl, _⟩ := h
    rfl
  · obtain ⟨a, ns, rfl, hS, hT, q⟩ := h
    have hu : (A.deeper (envOfC "law" (defScope sLaw) s.heap.objs.size f cdv)).units + 64 < cLine := by
      have := hr.un
      omega
    refine ⟨_, pss_cons (ps_if (pt_cmpR (op_neD hu) (pe_callTy call_tuple_of (by rfl) T.ttup (by decide +kernel) (pa_cons (pe_glob (v := .ref aR) (by rfl) hR rfl) pa_nil)) (pe_tup (pa_cons pe_str (pa_cons pe_str (pa_cons pe_str pa_nil)))) (nomark _)) (pss_one (ps_ret pe_bl)) pss_nil)
      (pss_cons (ps_for PassesOwn.never rfl (pi_range1 rfl T.rng (pa_cons (pe_callB (call_max2 rfl) (by rfl) T.max_ (by decide +kernel) (pa_cons pe_int (pa_cons (pe_callB (call_min2 rfl) (by rfl) T.min_ (by decide +kernel) (pa_cons pe_int (pa_cons (pe_callB call_len_seq (by rfl) T.len PySem.boot_len (pa_cons (pv 0) pa_nil)) pa_nil))) pa_nil))) pa_nil)) (pg_name (i := 1) scLaw.nd rfl (Or.inl rfl))
        (pss_cons (ps_set (i := 2) scLaw.nd rfl (Or.inl rfl) (pe_call GP (hr.mono (by decide)) (by rfl) mP kP bP .nil pass0 (pa_cons (pv 0) (pa_cons (pv 1) pa_nil))))
        (pss_cons (ps_asg (pe_tup (pa_cons (pe_op op_add pe_int (pe_call GT (hr.mono (by decide)) (by rfl) mT kT bT .nil pass0 (pa_cons (pv 2) (pa_cons pe_int pa_nil)))) (pa_cons (pe_call GO (hr.mono (by decide)) (by rfl) mO kO bO .nil pass0 (pa_cons (pv 2) (pa_cons (pe_lst (pa_cons pe_str (pa_cons pe_str (pa_cons pe_str pa_nil)))) pa_nil))) pa_nil))) (pg_tup rfl (pgs_cons (pg_name (i := 3) scLaw.nd rfl (Or.inr rfl)) (pgs_cons (pg_name (i := 4) scLaw.nd rfl (Or.inl rfl)) pgs_nil))))
        (pss_cons (ps_asg (pe_tup (pa_cons (pe_call GT (hr.mono (by decide)) (by rfl) mT kT bT .nil pass0 (pa_cons (pv 2) (pa_cons (pv 3) pa_nil))) (pa_cons (pe_call GT (hr.mono (by decide)) (by rfl) mT kT bT .nil pass0 (pa_cons (pv 2) (pa_cons (pv 3) pa_nil))) pa_nil))) (pg_tup rfl (pgs_cons (pg_name (i := 5) scLaw.nd rfl (Or.inr rfl)) (pgs_cons (pg_name (i := 6) scLaw.nd rfl (Or.inl rfl)) pgs_nil))))
        (pss_cons (ps_set (i := 7) scLaw.nd rfl (Or.inl rfl) (pe_call GV (hr.mono (by decide)) (by rfl) mV kV bV .nil pass0 (pa_cons (pv 3) (pa_cons (pv 5) (pa_cons (pv 3) pa_nil)))))
        (pss_cons (ps_if (pt_cmpR (op_neD hu) (pe_lc (own := [("_law_place", 10)]) (g := gName 10) (tt := tYes) rfl scLaw.nd (pi_list (pv 7)) (blkOk_by (own := [("_law_place", 10)]) (N := nW) (sc := defScope sLaw) (by decide +kernel))
            (fun _ _ _ _ _ => pg_name (i := 10) scLaw.nd rfl (Or.inl rfl)) (fun _ _ _ _ _ => pts_nil) (fun _ _ _ _ _ => pe_call (E := fun _ _ _ => False) GD (hr.mono (by decide)) (by rfl) mD kD bD .nil (passes_call takes0 fun _ _ _ _ h => h) (pa_cons (pv 3) (pa_cons (pv 5) (pa_cons (pv 10) pa_nil)))))
            (pe_listRg rfl (by rfl) T.tlst (prg_1 (by rfl) T.rng (pv 3))) (nomark _)) (pss_one (ps_ret pe_bl)) pss_nil)
        (pss_cons (ps_for PassesOwn.never rfl (pi_range1 rfl T.rng (pa_cons pe_int pa_nil)) (pg_name (i := 8) scLaw.nd rfl (Or.inl rfl))
          (pss_cons (ps_set (i := 9) scLaw.nd rfl (Or.inl rfl) (pe_call GW (hr.mono (by decide)) (by rfl) mW kW bW .nil pass0 (pa_cons (pv 2) (pa_cons (pv 3) (pa_cons (pv 4) (pa_cons (pv 5) (pa_cons (pv 6) (pa_cons pe_int pa_nil))))))))
          (pss_one (ps_if (pt_not (pt_val (pe_callG GM hgd hr (by rfl) mM kM bM (pa_cons (pv 3) (pa_cons (pv 4) (pa_cons (pv 5) (pa_cons (pv 6) (pa_cons (pv 9) pa_nil)))))))) (pss_one (ps_ret pe_bl)) pss_nil))))
        (pss_cons (ps_if (pt_not (pt_val (pe_callG GB hgd hr (by rfl) mB kB bB (pa_cons (pv 3) (pa_cons (pv 4) (pa_cons (pv 5) (pa_cons (pv 6) (pa_cons (pv 9) pa_nil)))))))) (pss_one (ps_ret pe_bl)) pss_nil)
        (pss_one (ps_if (pt_not (pt_val (pe_callG GF hgd hr (by rfl) mF kF bF (pa_cons (pv 3) (pa_cons (pv 4) (pa_cons (pv 5) (pa_cons (pv 6) pa_nil))))))) (pss_one (ps_ret pe_bl)) pss_nil))))))))))
      (pss_one (ps_ret pe_bl))), ?_⟩
    refine ⟨aR, _, rfl, .inr ⟨sR H, ?_⟩⟩
    refine ⟨by show 3 ≤ sizeLine; decide, fun t0 ht0 => ⟨_, _, .tup (sR _) rules_dp, .tup (SqT.of upd_same) rules_dp, rules_shaped, rules_shaped, _, rfl, ?_⟩⟩
    rw [eqv_self rules_shaped]
    refine iteF ?_
    have S0 : Same H (upd H t0 (.tup rulesV)) := same_up ht0
    have hS0 : SqL K (upd H t0 (.tup rulesV)) a (ns.map V.int) := sql_ext (LamX.ExtN.of S0) hS
    have hT0 : LamX.Tabs Tb (upd H t0 (.tup rulesV)) := hT.ext S0
    have hb : ∀ L : Int, ∃ N : Nat, N ≤ 8 ∧ (if (if L < 8 then L else 8) > 1 then (if L < 8 then L else 8) else 1) = (N : Int) := fun L => by
      refine ⟨(if (if L < 8 then L else 8) > 1 then (if L < 8 then L else 8) else 1).toNat, ?_, ?_⟩ <;> (split <;> split <;> omega)
    obtain ⟨N, hN, eN⟩ := hb ((ns.map V.int).length : Nat)
    refine ⟨_, rfl, a, _, rfl, .inl hS0, _, _, rfl, _, _, rfl, ?_⟩
    refine ⟨(N : Int), by rw [eN], by omega, by omega, ?_⟩
    refine for_range (n := N) (fun i σ G => (∃ x1 x2 x3 x4 x5 x6 x7 x8 x9 x10, σ = [some (.ref a), x1, x2, x3, x4, x5, x6, x7, x8, x9, x10]) ∧ LamX.ExtN H G ∧ LamX.Tabs Tb G) ⟨⟨_, _, _, _, _, _, _, _, _, _, rfl⟩, LamX.ExtN.of S0, hT0⟩ ?_ ?_
    · rintro i σ G hi ⟨⟨x1, x2, x3, x4, x5, x6, x7, x8, x9, x10, rfl⟩, e1, t1⟩
      refine ⟨_, rfl, _, rfl, a, ns, _, rfl, sql_ext e1 hS, by omega, by omega, fun z G1 nz s1 z1 => ?_⟩
      have nz0 : ∀ b o, H b = some o → (∀ ps, o ≠ .tbl ps) → b ≠ z := fun b o h no => ne_of_none (e1 _ _ h no) nz
      have eG : LamX.ExtN H G1 := e1.trans (LamX.ExtN.of s1)
      have tG := t1.ext s1
      refine ⟨_, rfl, z, 6, rfl, z1, by omega, by omega, fun r G2 r0 r1 b2 z2 => ⟨_, _, rfl, rfl, ?_⟩⟩
      have e2 := ext_but eG nz0 b2
      have t2 := tabs_but b2 z1 tG
      refine ⟨_, rfl, by show 3 ≤ sizeLine; decide, fun l hl => ?_⟩
      obtain ⟨oz, hz⟩ := z2.some
      refine ⟨z, l, rulesV, rfl, z2.same (same_up hl), (ne_of_none hz hl).symm, upd_same, by simp [rulesV], by decide, fun jj v G3 hv b3 z3 => ?_⟩
      have e3 := ext_but (e2.trans (LamX.ExtN.of (same_up hl))) nz0 b3
      have t3 := tabs_but b3 (z2.same (same_up hl)) (t2.ext (same_up hl))
      obtain ⟨x, rfl, okx⟩ : ∃ x : Str, v = .str x ∧ okRule (some x) = true := by
        match jj, hv with
        | 0, hv => exact ⟨"barred", (Option.some.inj hv).symm, by decide +kernel⟩
        | 1, hv => exact ⟨"free", (Option.some.inj hv).symm, by decide +kernel⟩
        | 2, hv => exact ⟨"left", (Option.some.inj hv).symm, by decide +kernel⟩
        | _ + 3, hv => cases hv
      refine ⟨by show 2 ≤ sizeLine; decide, fun ta hta => ?_⟩
      have z4 := z3.same (same_up (o := .tup [.int (1 + r), .str x]) hta)
      have e4 := e3.trans (LamX.ExtN.of (same_up (o := .tup [.int (1 + r), .str x]) hta))
      have t4 := t3.ext (same_up (o := .tup [.int (1 + r), .str x]) hta)
      refine ⟨ta, _, rfl, SqT.of upd_same, rfl, _, _, rfl, _, _, rfl, rfl, ?_⟩
      refine ⟨_, rfl, _, rfl, z, 1 + r, rfl, z4, by omega, by omega, fun b G5 b0 b1 bb5 z5 => ?_⟩
      have e5 := ext_but e4 nz0 bb5
      have t5 := tabs_but bb5 z4 t4
      refine ⟨_, rfl, _, rfl, z, 1 + r, rfl, z5, by omega, by omega, fun s' G6 s0 s1' bb6 z6 => ?_⟩
      have e6 := ext_but e5 nz0 bb6
      have t6 := tabs_but bb6 z5 t5
      have R : Rw (1 + r) b s' x := ⟨by omega, by omega, b0, b1, s0, s1', okx⟩
      refine ⟨by show 2 ≤ sizeLine; decide, fun tb htb => ?_⟩
      have z7 := z6.same (same_up (o := .tup [.int b, .int s']) htb)
      have e7 := e6.trans (LamX.ExtN.of (same_up (o := .tup [.int b, .int s']) htb))
      have t7 := t6.ext (same_up (o := .tup [.int b, .int s']) htb)
      refine ⟨tb, _, rfl, SqT.of upd_same, rfl, _, _, rfl, _, _, rfl, rfl, ?_⟩
      refine ⟨_, rfl, _, rfl, _, rfl, 1 + r, b, 1 + r, rfl, by omega, by omega, by omega, fun p G8 s8 np hp => ?_⟩
      have z8 := z7.same s8
      have e8 := e7.trans (LamX.ExtN.of s8)
      have t8 := t7.ext s8
      refine ⟨_, rfl, p, rfl, ⟨_, SqL.of hp⟩, fun D hD => lc_list (K := K) (a := p) (xs := (vis (1 + r) b (1 + r)).map V.int) (fun i G => Same G8 G ∧ G D = some (.lst ((((vis (1 + r) b (1 + r)).take i).map fun p => (p - b) % (1 + r)).map V.int))) ⟨same_up hD, upd_same⟩ (fun i G _ h => SqL.of (h.1 _ _ hp)) ?_ ?_⟩
      · rintro i y G9 hy ⟨s9, hD9⟩
        obtain ⟨pl, hpl, rfl⟩ := mapI_get hy
        have bd := vis_bd R.n0 (List.mem_of_getElem? hpl)
        refine ⟨rfl, ?_⟩
        refine ⟨_, rfl, _, rfl, _, rfl, _, _, _, rfl, _, ck_int R.n0 R.n1 ?_⟩
        intro _ e _ _; cases e
        refine ⟨_, ck_int R.b0 (by have := R.b1; omega) ?_⟩
        intro _ e _ _; cases e
        refine ⟨_, ck_int bd.1 bd.2 ?_⟩
        intro _ e _ _; cases e
        refine ⟨_, hD9, ?_, fun bb o hb => ?_, ?_⟩
        · rw [List.length_map, List.length_map, List.length_take]
          have lv : (vis (1 + r) b (1 + r)).length = (1 + r).toNat := by
            unfold vis
            rw [List.length_map, List.length_range]; skip
          exact small1000 (by omega)
        · rw [upd_ne (ne_of_none hb hD)]
          exact s9 _ _ hb
        · rw [upd_same, takeS hpl, List.map_append, List.map_append]
          rfl
      rintro G9 ⟨s9, hD9⟩
      rw [List.length_map, List.take_length, dist_eq R.n0 R.n1 R.b0 R.b1] at hD9
      refine ⟨_, rfl, _, rfl, .of_le (by omega) (by omega) (by omega) (by omega), fun pr hpr => ?_⟩
      have s10 : Same G9 (upd G9 pr (.lst (rgV 0 (1 + r)))) := same_up hpr
      have hpr2 : upd G9 pr (.lst (rgV 0 (1 + r))) pr = some (.lst ((rgI 0 (1 + r)).map V.int)) := by
        rw [← rgV_int]
        exact upd_same
      refine ⟨_, _, .lst (SqL.of (s10 _ _ hD9)) (dp_ints _), .lst (SqL.of hpr2) (dp_ints _), shaped_li _, shaped_li _, _, rfl, ?_⟩
      rw [eqv_self (shaped_li _)]
      refine iteF ?_
      have s810 := s9.trans s10
      refine ⟨5, rfl, by decide, by decide, for_range (n := 5) (fun j σ G => ∃ x1 x7 x8 x9 x10, σ = [some (.ref a), x1, some (.ref z), some (.int (1 + r)), some (.str x), some (.int b), some (.int s'), x7, x8, x9, x10] ∧ (0 < j → ∃ (a9 : Addr) (us : List V) (ps : List (Int × Int)), x9 = some (.ref a9) ∧ G a9 = some (.lst us) ∧ PrL G us ps ∧ us.length ≤ 8) ∧ Src z G ∧ LamX.ExtN H G ∧ LamX.Tabs Tb G)
        ⟨_, _, _, _, _, rfl, fun h => absurd h (by decide), z8.same s810, e8.trans (LamX.ExtN.of s810), t8.ext s810⟩ ?_ ?_⟩
      · rintro j σ F hj ⟨y1, y7, y8, y9, y10, rfl, _, zF, eF, tF⟩
        refine ⟨_, rfl, _, rfl, _, rfl, _, rfl, _, rfl, z, 1 + r, b, s', x, rfl, zF, R, fun a9 F2 us ps bF2 zF2 nF2 na9 ha9 hps lus => ?_⟩
        have eF2 := ext_but eF nz0 bF2
        have tF2 := tabs_but bF2 zF tF
        refine ⟨_, rfl, _, rfl, _, rfl, _, rfl, _, rfl, 1 + r, b, s', x, a9, us, ps, rfl, R, ha9, hps, lus, tF2, fun F3 x3 tF3 => ⟨_, rfl, iteF ?_⟩⟩
        exact ⟨_, _, _, _, _, rfl, fun _ => ⟨a9, us, ps, rfl, x3 _ _ ha9 (fun _ q => by cases q), hps.ext x3, lus⟩, zF2.ext x3, eF2.trans x3, tF3⟩
      · rintro σ F ⟨y1, y7, y8, y9, y10, rfl, hh, zF, eF, tF⟩
        obtain ⟨a9, us, ps, rfl, ha9, hps, lus⟩ := hh (by decide)
        refine ⟨_, rfl, _, rfl, _, rfl, _, rfl, _, rfl, 1 + r, b, s', x, a9, us, ps, rfl, R, ha9, hps, lus, tF, fun F3 x3 tF3 => ⟨_, rfl, iteF ?_⟩⟩
        exact ⟨_, rfl, _, rfl, _, rfl, _, rfl, 1 + r, b, s', x, rfl, R, tF3, fun F4 x4 tF4 => ⟨_, rfl, iteF ⟨⟨_, _, _, _, _, _, _, _, _, _, rfl⟩, (eF.trans x3).trans x4, tF4⟩⟩⟩
    · rintro σ G ⟨⟨x1, x2, x3, x4, x5, x6, x7, x8, x9, x10, rfl⟩, e1, t1⟩
      exact q G
end
end Pl

namespace Pl
open L2 PySem PySem.Spec PyProof.Rows
/-- a def of the top, under its name -/
def AtD (K : PySem.W.Frag) (x : Str) (st : Stmt) : Prop := ∃ (f : Addr) (fd : FuncData), PySem.W.nsIn K mainGlobals x = some (some (.ref f)) ∧ Fun K x x st f fd
def tbX (cs : List (Addr × Addr)) (a b c : Str) : TbL := (cs.map fun q => q.2).zip [a, b, c]
theorem tbX3 {c1 c2 c3 P1 P2 P3 : Addr} {a b c : Str} : tbX [(c1, P1), (c2, P2), (c3, P3)] a b c = [(P1, a), (P2, b), (P3, c)] := rfl
def tbOf (cs : List (Addr × Addr)) : TbL := tbX cs lam1 lam2 lam3
section
variable {α β : Type} {p q r : α × β} {P1 P2 P3 : α} {a b c : β}
theorem hm1 : p ∈ [p, q, r] := List.mem_cons_self
theorem hm2 : q ∈ [p, q, r] := List.mem_cons_of_mem _ List.mem_cons_self
theorem hm3 : r ∈ [p, q, r] := List.mem_cons_of_mem _ (List.mem_cons_of_mem _ List.mem_cons_self)
theorem hu1 (h12 : P1 ≠ P2) (h13 : P1 ≠ P3) : ∀ t ∈ [(P1, a), (P2, b), (P3, c)], t.1 = P1 → t.2 = a := fun t ht e => by
  simp only [List.mem_cons, List.not_mem_nil, or_false] at ht
  rcases ht with h | h | h
  · subst h; exact rfl
  · subst h; exact absurd e.symm h12
  · subst h; exact absurd e.symm h13
theorem hu2 (h12 : P1 ≠ P2) (h23 : P2 ≠ P3) : ∀ t ∈ [(P1, a), (P2, b), (P3, c)], t.1 = P2 → t.2 = b := fun t ht e => by
  simp only [List.mem_cons, List.not_mem_nil, or_false] at ht
  rcases ht with h | h | h
  · subst h; exact absurd e h12
  · subst h; exact rfl
  · subst h; exact absurd e.symm h23
theorem hu3 (h13 : P1 ≠ P3) (h23 : P2 ≠ P3) : ∀ t ∈ [(P1, a), (P2, b), (P3, c)], t.1 = P3 → t.2 = c := fun t ht e => by
  simp only [List.mem_cons, List.not_mem_nil, or_false] at ht
  rcases ht with h | h | h
  · subst h; exact absurd e h13
  · subst h; exact absurd e h23
  · subst h; exact rfl
end
theorem all3 {p : Addr × Addr → Prop} {a b c : Addr × Addr} (h1 : p a) (h2 : p b) (h3 : p c) : ∀ q ∈ [a, b, c], p q := fun q hq => by
  simp only [List.mem_cons, List.not_mem_nil, or_false] at hq
  rcases hq with rfl | rfl | rfl
  · exact h1
  · exact h2
  · exact h3
theorem tbOf_tabs {cs : List (Addr × Addr)} {H : Hp} (h : ∀ q ∈ cs, H q.2 = some (.tbl #[])) : LamX.Tabs (tbOf cs) H := fun p hp => by
  obtain ⟨a, b⟩ := p
  obtain ⟨q, hq, e⟩ := List.mem_map.mp (List.of_mem_zip hp).1
  have e' : q.2 = a := e
  exact LamX.TabS.nil (e' ▸ h q hq)
theorem walkP {l : PySem.W.OpenLaw} {n : Nat} {qp : Program} {loose : List Str} {XP : (Str → Option Value) → Heap → Prop} {YP : World → Heap → Prop} {d : DefRec} {K : Params → PySem.W.Frag}
    (hn : l.most = some n) (hn2 : n ≤ sizeLine) (hdf : d.params.defaults = []) (hY : ∀ (w : World) (h : Heap), YP w h → (K w.params).In h)
    (F : ∀ (w : World) (mg : Str → Option Value) (fa : Addr) (h : Heap), YP w h → (K w.params).In h → h.Ns mainGlobals mg → mg d.name = some (.ref fa) → LawM l w (K w.params) mg fa h 9 (fun cs => spLaw (K w.params) (tbOf cs))) :
    PySem.W.WalkO qp loose XP YP l.row.toRowW d [] (fun f vs => PySem.call f vs) :=
  walkM (sp := fun w cs => spLaw (K w.params) (tbOf cs)) hn hn2 hdf ⟨rfl, by decide, by decide⟩ hY (fun w cs H a ns hH seq => ⟨a, ns, rfl, seq, tbOf_tabs hH, fun _ => rfl⟩) F
theorem all_mk {l : PySem.W.OpenLaw} {w : World} {K : PySem.W.Frag} {h : Heap} {mg : Str → Option Value} {fa : Addr} (X : K.In h) (G : h.Ns mainGlobals mg) (hfa : mg "law" = some (.ref fa))
    {tk1 : Tok} {aR : Addr} {odR : Option Addr} {nR : Nat} {r0 r1 r2 : Tok} {slR : Array (Option Value)} {ft1 ct1 Pt1 : Addr} {odt1 ant1 odc1 : Option Addr} {slt1 slc1 : Array (Option Value)} {oct1 kVt1 dct1 pmt1 ctt1 : Value} {vsC1 : Array Value} {ft2 ct2 Pt2 : Addr} {odt2 ant2 odc2 : Option Addr} {slt2 slc2 : Array (Option Value)} {oct2 kVt2 dct2 pmt2 ctt2 : Value} {vsC2 : Array Value} {ft3 ct3 Pt3 : Addr} {odt3 ant3 odc3 : Option Addr} {slt3 slc3 : Array (Option Value)} {oct3 kVt3 dct3 pmt3 ctt3 : Value} {vsC3 : Array Value} {C_n fI_n S_n N_n : Addr} {odI_n anI_n dd_n : Option Addr} {slI_n : Array (Option Value)} {ocI_n kVI_n dcI_n pmI_n cdI_n ctI_n : Value} {nm_n q_n : Str} {bs_n sub_n : List Value} {sn_n : List Str} {ab_n : Bool} {col_n : Option Bool} {u0_n u1_n u2_n u3_n u5_n : Option Value} {C_p fI_p S_p N_p : Addr} {odI_p anI_p dd_p : Option Addr} {slI_p : Array (Option Value)} {ocI_p kVI_p dcI_p pmI_p cdI_p ctI_p : Value} {nm_p q_p : Str} {bs_p sub_p : List Value} {sn_p : List Str} {ab_p : Bool} {col_p : Option Bool} {u0_p u1_p u2_p u3_p u5_p : Option Value} {C_w fI_w S_w N_w : Addr} {odI_w anI_w dd_w : Option Addr} {slI_w : Array (Option Value)} {ocI_w kVI_w dcI_w pmI_w cdI_w ctI_w : Value} {nm_w q_w : Str} {bs_w sub_w : List Value} {sn_w : List Str} {ab_w : Bool} {col_w : Option Bool} {u0_w u1_w u2_w u3_w u5_w : Option Value} {C_m fI_m S_m N_m : Addr} {odI_m anI_m dd_m : Option Addr} {slI_m : Array (Option Value)} {ocI_m kVI_m dcI_m pmI_m cdI_m ctI_m : Value} {nm_m q_m : Str} {bs_m sub_m : List Value} {sn_m : List Str} {ab_m : Bool} {col_m : Option Bool} {u0_m u1_m u2_m u3_m u5_m : Option Value}
    (A0 : AtD K "is_number" sIsNumber)
    (A1 : AtD K "is_within" sIsWithin)
    (A2 : AtD K "_check_pages" sCkPages)
    (A3 : AtD K "check_page" sCkPage)
    (A4 : AtD K "check_rule" sCkRule)
    (A5 : AtD K "_check_walk" sCkWalk)
    (A6 : AtD K "is_barred" sBarred)
    (A7 : AtD K "_first_wrong" sFirst)
    (A8 : AtD K "_sights" sSeen)
    (A9 : AtD K "distance" sDistance)
    (A10 : AtD K "is_let" sIsLet)
    (A11 : AtD K "sights" sSights)
    (A12 : AtD K "_law_pool" sPool)
    (A13 : AtD K "_law_take" sTake)
    (A14 : AtD K "_law_one" sOne)
    (A15 : AtD K "_law_visited" sVisited)
    (A16 : AtD K "_law_may" sMay)
    (A17 : AtD K "_law_sights" sLSights)
    (A18 : AtD K "_law_all_let" sAllLet)
    (A19 : AtD K "_law_drawn_moves" sDrawn)
    (A20 : AtD K "_law_tried" sTried)
    (A21 : AtD K "_law_first_wrong" sLFirst)
    (A22 : AtD K "law" sLaw)
    (z_isinstance : PySem.W.nsIn K mainGlobals "isinstance" = some none)
    (z_len : PySem.W.nsIn K mainGlobals "len" = some none)
    (z_int : PySem.W.nsIn K mainGlobals "int" = some none)
    (z_bool : PySem.W.nsIn K mainGlobals "bool" = some none)
    (z_str : PySem.W.nsIn K mainGlobals "str" = some none)
    (z_list : PySem.W.nsIn K mainGlobals "list" = some none)
    (z_tuple : PySem.W.nsIn K mainGlobals "tuple" = some none)
    (z_range : PySem.W.nsIn K mainGlobals "range" = some none)
    (z_max : PySem.W.nsIn K mainGlobals "max" = some none)
    (z_min : PySem.W.nsIn K mainGlobals "min" = some none)
    (z_repr : PySem.W.nsIn K mainGlobals "repr" = some none)
    (z_enumerate : PySem.W.nsIn K mainGlobals "enumerate" = some none)
    (g_pages : PySem.W.nsIn K mainGlobals "MOST_PAGES" = some (some (.int 6 tk1)))
    (nR_ : PySem.W.nsIn K mainGlobals "RULES" = some (some (.ref aR)))
    (lR : K.lookup aR = some ⟨.type "tuple", odR, .seq #[.str "barred" r0, .str "free" r1, .str "left" r2] nR, slR⟩)
    (nt1 : PySem.W.nsIn K mainGlobals "_law_moves_right" = some (some (.ref ft1)))
    (lt1 : K.lookup ft1 = some ⟨oct1, odt1, .func (PySem.W.fnOf "_law_moves_right" "_law_moves_right" (defArgs sMovesR) (defBody sMovesR) (defScope sMovesR) .none kVt1 dct1 pmt1 ant1 (.ref ct1) ctt1), slt1⟩)
    (ck1 : PySem.W.codeIn K (.ref ct1) "_law_moves_right" = true)
    (kk1 : PySem.W.keepIn K (.ref ft1) = true)
    (lc1 : K.lookup ct1 = some ⟨.type "code", odc1, .fields vsC1, slc1⟩)
    (hP1 : vsC1[11]? = some (.ref Pt1))
    (hcd1 : PySem.W.codeHdIn K ct1 Pt1 = true)
    (notK1 : K.lookup Pt1 = none)
    (tab1 : h.get? Pt1 = some { cls := .none, data := .fields #[] })
    (nt2 : PySem.W.nsIn K mainGlobals "_law_odd_right" = some (some (.ref ft2)))
    (lt2 : K.lookup ft2 = some ⟨oct2, odt2, .func (PySem.W.fnOf "_law_odd_right" "_law_odd_right" (defArgs sOddR) (defBody sOddR) (defScope sOddR) .none kVt2 dct2 pmt2 ant2 (.ref ct2) ctt2), slt2⟩)
    (ck2 : PySem.W.codeIn K (.ref ct2) "_law_odd_right" = true)
    (kk2 : PySem.W.keepIn K (.ref ft2) = true)
    (lc2 : K.lookup ct2 = some ⟨.type "code", odc2, .fields vsC2, slc2⟩)
    (hP2 : vsC2[11]? = some (.ref Pt2))
    (hcd2 : PySem.W.codeHdIn K ct2 Pt2 = true)
    (notK2 : K.lookup Pt2 = none)
    (tab2 : h.get? Pt2 = some { cls := .none, data := .fields #[] })
    (nt3 : PySem.W.nsIn K mainGlobals "_law_values_refused" = some (some (.ref ft3)))
    (lt3 : K.lookup ft3 = some ⟨oct3, odt3, .func (PySem.W.fnOf "_law_values_refused" "_law_values_refused" (defArgs sRefused) (defBody sRefused) (defScope sRefused) .none kVt3 dct3 pmt3 ant3 (.ref ct3) ctt3), slt3⟩)
    (ck3 : PySem.W.codeIn K (.ref ct3) "_law_values_refused" = true)
    (kk3 : PySem.W.keepIn K (.ref ft3) = true)
    (lc3 : K.lookup ct3 = some ⟨.type "code", odc3, .fields vsC3, slc3⟩)
    (hP3 : vsC3[11]? = some (.ref Pt3))
    (hcd3 : PySem.W.codeHdIn K ct3 Pt3 = true)
    (notK3 : K.lookup Pt3 = none)
    (tab3 : h.get? Pt3 = some { cls := .none, data := .fields #[] })
    (ne12 : Pt1 ≠ Pt2)
    (ne13 : Pt1 ≠ Pt3)
    (ne23 : Pt2 ≠ Pt3)
    (nCn : PySem.W.nsIn K mainGlobals "NoCount" = some (some (.ref C_n)))
    (xLn : K.lookup C_n = some (excClassObj nm_n q_n C_n N_n bs_n [.ref S_n, .type "ValueError", .type "Exception", .type "BaseException", .type "object"] true sn_n sub_n ab_n col_n dd_n u0_n u1_n u2_n u3_n u5_n "ValueError.__new__"))
    (x5n : PySem.W.findIn K (.ref C_n) "__setattr__" = some (some (.builtin "object.__setattr__")))
    (x6n : PySem.W.typeIn K (.ref C_n) = some (.type "type"))
    (x7n : PySem.W.keepIn K (.ref C_n) = true)
    (iIn : PySem.W.findIn K (.ref C_n) "__init__" = some (some (.ref fI_n)))
    (tIn : PySem.W.typeIn K (.ref fI_n) = some (.type "function"))
    (nTn : PySem.W.findIn K (.ref C_n) "told" = some none)
    (lIn : K.lookup fI_n = some ⟨ocI_n, odI_n, .func (PySem.W.fnOf "__init__" "NoCount.__init__" (defArgs (inClass (top 2) 0)) (defBody (inClass (top 2) 0)) (defScope (inClass (top 2) 0)) .none kVI_n dcI_n pmI_n anI_n cdI_n ctI_n), slI_n⟩)
    (cIn : PySem.W.codeIn K cdI_n "NoCount.__init__" = true)
    (kIn : PySem.W.keepIn K (.ref fI_n) = true)
    (x1n : PySem.W.findIn K (.ref C_n) "__getattribute__" = some (some (.builtin "BaseException.__getattribute__")))
    (x2n : PySem.W.findIn K (.ref C_n) "__getattr__" = some none)
    (x3n : PySem.W.subIn K (.ref C_n) (.type "BaseException") = some true)
    (x4n : PySem.W.hasDictIn K C_n = true)
    (nCp : PySem.W.nsIn K mainGlobals "NoPage" = some (some (.ref C_p)))
    (xLp : K.lookup C_p = some (excClassObj nm_p q_p C_p N_p bs_p [.ref S_p, .type "ValueError", .type "Exception", .type "BaseException", .type "object"] true sn_p sub_p ab_p col_p dd_p u0_p u1_p u2_p u3_p u5_p "ValueError.__new__"))
    (x5p : PySem.W.findIn K (.ref C_p) "__setattr__" = some (some (.builtin "object.__setattr__")))
    (x6p : PySem.W.typeIn K (.ref C_p) = some (.type "type"))
    (x7p : PySem.W.keepIn K (.ref C_p) = true)
    (iIp : PySem.W.findIn K (.ref C_p) "__init__" = some (some (.ref fI_p)))
    (tIp : PySem.W.typeIn K (.ref fI_p) = some (.type "function"))
    (nTp : PySem.W.findIn K (.ref C_p) "told" = some none)
    (lIp : K.lookup fI_p = some ⟨ocI_p, odI_p, .func (PySem.W.fnOf "__init__" "NoPage.__init__" (defArgs (inClass (top 3) 0)) (defBody (inClass (top 3) 0)) (defScope (inClass (top 3) 0)) .none kVI_p dcI_p pmI_p anI_p cdI_p ctI_p), slI_p⟩)
    (cIp : PySem.W.codeIn K cdI_p "NoPage.__init__" = true)
    (kIp : PySem.W.keepIn K (.ref fI_p) = true)
    (x1p : PySem.W.findIn K (.ref C_p) "__getattribute__" = some (some (.builtin "BaseException.__getattribute__")))
    (x2p : PySem.W.findIn K (.ref C_p) "__getattr__" = some none)
    (x3p : PySem.W.subIn K (.ref C_p) (.type "BaseException") = some true)
    (x4p : PySem.W.hasDictIn K C_p = true)
    (nCw : PySem.W.nsIn K mainGlobals "NoWay" = some (some (.ref C_w)))
    (xLw : K.lookup C_w = some (excClassObj nm_w q_w C_w N_w bs_w [.ref S_w, .type "ValueError", .type "Exception", .type "BaseException", .type "object"] true sn_w sub_w ab_w col_w dd_w u0_w u1_w u2_w u3_w u5_w "ValueError.__new__"))
    (x5w : PySem.W.findIn K (.ref C_w) "__setattr__" = some (some (.builtin "object.__setattr__")))
    (x6w : PySem.W.typeIn K (.ref C_w) = some (.type "type"))
    (x7w : PySem.W.keepIn K (.ref C_w) = true)
    (iIw : PySem.W.findIn K (.ref C_w) "__init__" = some (some (.ref fI_w)))
    (tIw : PySem.W.typeIn K (.ref fI_w) = some (.type "function"))
    (nTw : PySem.W.findIn K (.ref C_w) "told" = some none)
    (lIw : K.lookup fI_w = some ⟨ocI_w, odI_w, .func (PySem.W.fnOf "__init__" "NoWay.__init__" (defArgs (inClass (top 4) 0)) (defBody (inClass (top 4) 0)) (defScope (inClass (top 4) 0)) .none kVI_w dcI_w pmI_w anI_w cdI_w ctI_w), slI_w⟩)
    (cIw : PySem.W.codeIn K cdI_w "NoWay.__init__" = true)
    (kIw : PySem.W.keepIn K (.ref fI_w) = true)
    (x1w : PySem.W.findIn K (.ref C_w) "__getattribute__" = some (some (.builtin "BaseException.__getattribute__")))
    (x2w : PySem.W.findIn K (.ref C_w) "__getattr__" = some none)
    (x3w : PySem.W.subIn K (.ref C_w) (.type "BaseException") = some true)
    (x4w : PySem.W.hasDictIn K C_w = true)
    (nCm : PySem.W.nsIn K mainGlobals "NoMoves" = some (some (.ref C_m)))
    (xLm : K.lookup C_m = some (excClassObj nm_m q_m C_m N_m bs_m [.ref S_m, .type "ValueError", .type "Exception", .type "BaseException", .type "object"] true sn_m sub_m ab_m col_m dd_m u0_m u1_m u2_m u3_m u5_m "ValueError.__new__"))
    (x5m : PySem.W.findIn K (.ref C_m) "__setattr__" = some (some (.builtin "object.__setattr__")))
    (x6m : PySem.W.typeIn K (.ref C_m) = some (.type "type"))
    (x7m : PySem.W.keepIn K (.ref C_m) = true)
    (iIm : PySem.W.findIn K (.ref C_m) "__init__" = some (some (.ref fI_m)))
    (tIm : PySem.W.typeIn K (.ref fI_m) = some (.type "function"))
    (nTm : PySem.W.findIn K (.ref C_m) "told" = some none)
    (lIm : K.lookup fI_m = some ⟨ocI_m, odI_m, .func (PySem.W.fnOf "__init__" "NoMoves.__init__" (defArgs (inClass (top 5) 0)) (defBody (inClass (top 5) 0)) (defScope (inClass (top 5) 0)) .none kVI_m dcI_m pmI_m anI_m cdI_m ctI_m), slI_m⟩)
    (cIm : PySem.W.codeIn K cdI_m "NoMoves.__init__" = true)
    (kIm : PySem.W.keepIn K (.ref fI_m) = true)
    (x1m : PySem.W.findIn K (.ref C_m) "__getattribute__" = some (some (.builtin "BaseException.__getattribute__")))
    (x2m : PySem.W.findIn K (.ref C_m) "__getattr__" = some none)
    (x3m : PySem.W.subIn K (.ref C_m) (.type "BaseException") = some true)
    (x4m : PySem.W.hasDictIn K C_m = true)
    (smm : PySem.W.subIn K (.ref C_m) (.ref C_m) = some true)
    (snm : PySem.W.subIn K (.ref C_n) (.ref C_m) = some false)
    (snn : PySem.W.subIn K (.ref C_n) (.ref C_n) = some true)
    (swm : PySem.W.subIn K (.ref C_w) (.ref C_m) = some false)
    (swn : PySem.W.subIn K (.ref C_w) (.ref C_n) = some false)
    (sww : PySem.W.subIn K (.ref C_w) (.ref C_w) = some true)
    (spm : PySem.W.subIn K (.ref C_p) (.ref C_m) = some false)
    (spn : PySem.W.subIn K (.ref C_p) (.ref C_n) = some false)
    (spw : PySem.W.subIn K (.ref C_p) (.ref C_w) = some false)
    (spp : PySem.W.subIn K (.ref C_p) (.ref C_p) = some true) : LawM l w K mg fa h 9 (fun cs => spLaw K (tbOf cs)) := by
  obtain ⟨f0, fd0, n0_, F0⟩ := A0
  obtain ⟨f1, fd1, n1_, F1⟩ := A1
  obtain ⟨f2, fd2, n2_, F2⟩ := A2
  obtain ⟨f3, fd3, n3_, F3⟩ := A3
  obtain ⟨f4, fd4, n4_, F4⟩ := A4
  obtain ⟨f5, fd5, n5_, F5⟩ := A5
  obtain ⟨f6, fd6, n6_, F6⟩ := A6
  obtain ⟨f7, fd7, n7_, F7⟩ := A7
  obtain ⟨f8, fd8, n8_, F8⟩ := A8
  obtain ⟨f9, fd9, n9_, F9⟩ := A9
  obtain ⟨f10, fd10, n10_, F10⟩ := A10
  obtain ⟨f11, fd11, n11_, F11⟩ := A11
  obtain ⟨f12, fd12, n12_, F12⟩ := A12
  obtain ⟨f13, fd13, n13_, F13⟩ := A13
  obtain ⟨f14, fd14, n14_, F14⟩ := A14
  obtain ⟨f15, fd15, n15_, F15⟩ := A15
  obtain ⟨f16, fd16, n16_, F16⟩ := A16
  obtain ⟨f17, fd17, n17_, F17⟩ := A17
  obtain ⟨f18, fd18, n18_, F18⟩ := A18
  obtain ⟨f19, fd19, n19_, F19⟩ := A19
  obtain ⟨f20, fd20, n20_, F20⟩ := A20
  obtain ⟨f21, fd21, n21_, F21⟩ := A21
  obtain ⟨f22, fd22, n22_, F22⟩ := A22
  have M0 := PySem.W.mg_of X G n0_
  have b0 := F0.binds (ps := ["value"]) fun _ _ _ _ _ _ us hl => match us, hl with | [_], _ => rfl
  have M1 := PySem.W.mg_of X G n1_
  have b1 := F1.binds (ps := ["value", "least", "most"]) fun _ _ _ _ _ _ us hl => match us, hl with | [_, _, _], _ => rfl
  have M2 := PySem.W.mg_of X G n2_
  have b2 := F2.binds (ps := ["pages"]) fun _ _ _ _ _ _ us hl => match us, hl with | [_], _ => rfl
  have M3 := PySem.W.mg_of X G n3_
  have b3 := F3.binds (ps := ["pages", "page"]) fun _ _ _ _ _ _ us hl => match us, hl with | [_, _], _ => rfl
  have M4 := PySem.W.mg_of X G n4_
  have b4 := F4.binds (ps := ["rule"]) fun _ _ _ _ _ _ us hl => match us, hl with | [_], _ => rfl
  have M5 := PySem.W.mg_of X G n5_
  have b5 := F5.binds (ps := ["pages", "rule", "begin", "page"]) fun _ _ _ _ _ _ us hl => match us, hl with | [_, _, _, _], _ => rfl
  have M6 := PySem.W.mg_of X G n6_
  have b6 := F6.binds (ps := ["pages", "begin", "done", "own", "other"]) fun _ _ _ _ _ _ us hl => match us, hl with | [_, _, _, _, _], _ => rfl
  have M7 := PySem.W.mg_of X G n7_
  have b7 := F7.binds (ps := ["pages", "rule", "begin", "page", "moves"]) fun _ _ _ _ _ _ us hl => match us, hl with | [_, _, _, _, _], _ => rfl
  have M8 := PySem.W.mg_of X G n8_
  have b8 := F8.binds (ps := ["pages", "rule", "begin", "page", "moves"]) fun _ _ _ _ _ _ us hl => match us, hl with | [_, _, _, _, _], _ => rfl
  have M9 := PySem.W.mg_of X G n9_
  have b9 := F9.binds (ps := ["pages", "begin", "page"]) fun _ _ _ _ _ _ us hl => match us, hl with | [_, _, _], _ => rfl
  have M10 := PySem.W.mg_of X G n10_
  have b10 := F10.binds (ps := ["pages", "rule", "begin", "page", "moves"]) fun _ _ _ _ _ _ us hl => match us, hl with | [_, _, _, _, _], _ => rfl
  have M11 := PySem.W.mg_of X G n11_
  have b11 := F11.binds (ps := ["pages", "rule", "begin", "page", "moves"]) fun _ _ _ _ _ _ us hl => match us, hl with | [_, _, _, _, _], _ => rfl
  have M12 := PySem.W.mg_of X G n12_
  have b12 := F12.binds (ps := ["_law_script", "_law_k"]) fun _ _ _ _ _ _ us hl => match us, hl with | [_, _], _ => rfl
  have M13 := PySem.W.mg_of X G n13_
  have b13 := F13.binds (ps := ["_law_source", "_law_top"]) fun _ _ _ _ _ _ us hl => match us, hl with | [_, _], _ => rfl
  have M14 := PySem.W.mg_of X G n14_
  have b14 := F14.binds (ps := ["_law_source", "_law_things"]) fun _ _ _ _ _ _ us hl => match us, hl with | [_, _], _ => rfl
  have M15 := PySem.W.mg_of X G n15_
  have b15 := F15.binds (ps := ["_law_size", "_law_begin", "_law_done"]) fun _ _ _ _ _ _ us hl => match us, hl with | [_, _, _], _ => rfl
  have M16 := PySem.W.mg_of X G n16_
  have b16 := F16.binds (ps := ["_law_size", "_law_way", "_law_begin", "_law_done", "_law_spot", "_law_target"]) fun _ _ _ _ _ _ us hl => match us, hl with | [_, _, _, _, _, _], _ => rfl
  have M17 := PySem.W.mg_of X G n17_
  have b17 := F17.binds (ps := ["_law_size", "_law_way", "_law_begin", "_law_spot", "_law_steps"]) fun _ _ _ _ _ _ us hl => match us, hl with | [_, _, _, _, _], _ => rfl
  have M18 := PySem.W.mg_of X G n18_
  have b18 := F18.binds (ps := ["_law_size", "_law_way", "_law_begin", "_law_spot", "_law_steps"]) fun _ _ _ _ _ _ us hl => match us, hl with | [_, _, _, _, _], _ => rfl
  have M19 := PySem.W.mg_of X G n19_
  have b19 := F19.binds (ps := ["_law_source", "_law_size", "_law_way", "_law_begin", "_law_spot", "_law_top"]) fun _ _ _ _ _ _ us hl => match us, hl with | [_, _, _, _, _, _], _ => rfl
  have M20 := PySem.W.mg_of X G n20_
  have b20 := F20.binds (ps := ["_law_call"]) fun _ _ _ _ _ _ us hl => match us, hl with | [_], _ => rfl
  have M21 := PySem.W.mg_of X G n21_
  have b21 := F21.binds (ps := ["_law_size", "_law_way", "_law_begin", "_law_spot", "_law_steps"]) fun _ _ _ _ _ _ us hl => match us, hl with | [_, _, _, _, _], _ => rfl
  have M22 := PySem.W.mg_of X G n22_
  have b22 := F22.binds (ps := ["_law_script"]) fun _ _ _ _ _ _ us hl => match us, hl with | [_], _ => rfl
  have e := hfa.symm.trans M22
  cases e
  have T : Cst mg := ⟨(PySem.W.mg_none_of X G z_isinstance), (PySem.W.mg_none_of X G z_len), (PySem.W.mg_none_of X G z_int), (PySem.W.mg_none_of X G z_bool), (PySem.W.mg_none_of X G z_str), (PySem.W.mg_none_of X G z_list), (PySem.W.mg_none_of X G z_tuple), (PySem.W.mg_none_of X G z_range), (PySem.W.mg_none_of X G z_max), (PySem.W.mg_none_of X G z_min), (PySem.W.mg_none_of X G z_repr), (PySem.W.mg_none_of X G z_enumerate), ⟨_, PySem.W.mg_of X G g_pages⟩⟩
  have hR := PySem.W.mg_of X G nR_
  have sR : ∀ H : Hp, SqT K H aR rulesV := fun H => .inr ⟨_, _, nR, lR, rfl, rfl, (by show 3 ≤ sizeLine; decide), .cons ⟨_, rfl⟩ (.cons ⟨_, rfl⟩ (.cons ⟨_, rfl⟩ .nil))⟩
  have oxn : OexC K C_n := ⟨⟨_, _, _, _, _, _, _, _, _, _, _, _, _, _, _, xLn, by rfl⟩, x5n, x3n, x6n, x7n⟩
  have TEn : ErrT K mg "NoCount" C_n fI_n := ⟨oxn, PySem.W.mg_of X G nCn, iIn, tIn, nTn⟩
  have FIn := fun_mk (st := inClass (top 2) 0) lIn cIn kIn
  have bIn := FIn.binds (ps := ["self", "told"]) fun _ _ _ _ _ _ us hl => match us, hl with | [_, _], _ => rfl
  have ESn : ErrS K mg "NoCount" C_n := ⟨PySem.W.mg_of X G nCn, ⟨x1n, x2n, x3n, x4n⟩, nTn⟩
  have oxp : OexC K C_p := ⟨⟨_, _, _, _, _, _, _, _, _, _, _, _, _, _, _, xLp, by rfl⟩, x5p, x3p, x6p, x7p⟩
  have TEp : ErrT K mg "NoPage" C_p fI_p := ⟨oxp, PySem.W.mg_of X G nCp, iIp, tIp, nTp⟩
  have FIp := fun_mk (st := inClass (top 3) 0) lIp cIp kIp
  have bIp := FIp.binds (ps := ["self", "told"]) fun _ _ _ _ _ _ us hl => match us, hl with | [_, _], _ => rfl
  have ESp : ErrS K mg "NoPage" C_p := ⟨PySem.W.mg_of X G nCp, ⟨x1p, x2p, x3p, x4p⟩, nTp⟩
  have oxw : OexC K C_w := ⟨⟨_, _, _, _, _, _, _, _, _, _, _, _, _, _, _, xLw, by rfl⟩, x5w, x3w, x6w, x7w⟩
  have TEw : ErrT K mg "NoWay" C_w fI_w := ⟨oxw, PySem.W.mg_of X G nCw, iIw, tIw, nTw⟩
  have FIw := fun_mk (st := inClass (top 4) 0) lIw cIw kIw
  have bIw := FIw.binds (ps := ["self", "told"]) fun _ _ _ _ _ _ us hl => match us, hl with | [_, _], _ => rfl
  have ESw : ErrS K mg "NoWay" C_w := ⟨PySem.W.mg_of X G nCw, ⟨x1w, x2w, x3w, x4w⟩, nTw⟩
  have oxm : OexC K C_m := ⟨⟨_, _, _, _, _, _, _, _, _, _, _, _, _, _, _, xLm, by rfl⟩, x5m, x3m, x6m, x7m⟩
  have TEm : ErrT K mg "NoMoves" C_m fI_m := ⟨oxm, PySem.W.mg_of X G nCm, iIm, tIm, nTm⟩
  have FIm := fun_mk (st := inClass (top 5) 0) lIm cIm kIm
  have bIm := FIm.binds (ps := ["self", "told"]) fun _ _ _ _ _ _ us hl => match us, hl with | [_, _], _ => rfl
  have ESm : ErrS K mg "NoMoves" C_m := ⟨PySem.W.mg_of X G nCm, ⟨x1m, x2m, x3m, x4m⟩, nTm⟩
  have S : Tri K mg ⟨C_m, C_n, C_w, C_p⟩ := ⟨ESm, ESn, ESw, ESp, PySem.W.exm_ref x3m x4m x6m smm, PySem.W.exm_ref x3m x4m x6m snm, PySem.W.exm_ref x3n x4n x6n snn, PySem.W.exm_ref x3m x4m x6m swm, PySem.W.exm_ref x3n x4n x6n swn, PySem.W.exm_ref x3w x4w x6w sww, PySem.W.exm_ref x3m x4m x6m spm, PySem.W.exm_ref x3n x4n x6n spn, PySem.W.exm_ref x3w x4w x6w spw, PySem.W.exm_ref x3p x4p x6p spp⟩
  obtain ⟨oc', od', kV', doc', pm', an', cdv', ct', osl', rfl, lk', hcd'⟩ := F22.ex
  have FL := fun_mk (st := sLaw) lk' hcd' F22.kp
  refine ⟨PySem.W.fnOf "law" "law" (defArgs sLaw) (defBody sLaw) (defScope sLaw) .none kV' doc' pm' an' cdv' ct', [(ct1, Pt1), (ct2, Pt2), (ct3, Pt3)], all3 tab1 tab2 tab3, all3 notK1 notK2 notK3, all3 (PySem.W.codeHd_of_K X hcd1) (PySem.W.codeHd_of_K X hcd2) (PySem.W.codeHd_of_K X hcd3), fun s v => .of_eq rfl, fun base _ _ TB => ?_⟩
  have Tb_ : tbOf [(ct1, Pt1), (ct2, Pt2), (ct3, Pt3)] = [(Pt1, lam1), (Pt2, lam2), (Pt3, lam3)] := tbX3
  show FnG l.prog w K mg base 9 _ _ _ (spLaw K (tbOf [(ct1, Pt1), (ct2, Pt2), (ct3, Pt3)]))
  rw [Tb_]
  have TB1 : LamX.TabB base mg ct1 Pt1 := TB (ct1, Pt1) hm1
  have TB2 : LamX.TabB base mg ct2 Pt2 := TB (ct2, Pt2) hm2
  have TB3 : LamX.TabB base mg ct3 Pt3 := TB (ct3, Pt3) hm3
  have MKn : Mak l.prog w K mg base "NoCount" C_n := ⟨fI_n, _, TEn, ok_init2 FIn, bIn⟩
  have MKp : Mak l.prog w K mg base "NoPage" C_p := ⟨fI_p, _, TEp, ok_init3 FIp, bIp⟩
  have MKw : Mak l.prog w K mg base "NoWay" C_w := ⟨fI_w, _, TEw, ok_init4 FIw, bIw⟩
  have MKm : Mak l.prog w K mg base "NoMoves" C_m := ⟨fI_m, _, TEm, ok_init5 FIm, bIm⟩
  have D0 : Df l.prog w K mg base 1 "is_number" ["value"] spN := ⟨f0, fd0, ok_number F0 T, M0, F0.kp, b0⟩
  have D1 : Df l.prog w K mg base 2 "is_within" ["value", "least", "most"] spW := ⟨f1, fd1, ok_within F1 D0, M1, F1.kp, b1⟩
  have D2 : DfX l.prog w K mg base 3 "_check_pages" ["pages"] (spPages C_n) := ⟨f2, fd2, ok_ckpages F2 T MKn D1, M2, F2.kp, b2⟩
  have D3 : DfX l.prog w K mg base 3 "check_page" ["pages", "page"] (spPage C_p) := ⟨f3, fd3, ok_ckpage F3 T MKp D1, M3, F3.kp, b3⟩
  have D4 : DfX l.prog w K mg base 3 "check_rule" ["rule"] (spRule K C_w) := ⟨f4, fd4, ok_ckrule F4 T hR sR MKw, M4, F4.kp, b4⟩
  have D5 : DfX l.prog w K mg base 4 "_check_walk" ["pages", "rule", "begin", "page"] (spWalk K C_n C_w C_p) := ⟨f5, fd5, ok_ckwalk F5 D2 D4 D3, M5, F5.kp, b5⟩
  have D6 : Df l.prog w K mg base 1 "is_barred" ["pages", "begin", "done", "own", "other"] spBar := ⟨f6, fd6, ok_barred F6, M6, F6.kp, b6⟩
  have D7 : Df l.prog w K mg base 3 "_first_wrong" ["pages", "rule", "begin", "page", "moves"] (spFirst K) := ⟨f7, fd7, ok_first F7 T D1 D6, M7, F7.kp, b7⟩
  have D8 : Df l.prog w K mg base 1 "_sights" ["pages", "rule", "begin", "page", "moves"] spSeen := ⟨f8, fd8, ok_seen F8 T, M8, F8.kp, b8⟩
  have D9 : DfX l.prog w K mg base 4 "distance" ["pages", "begin", "page"] (spDist C_n C_p) := ⟨f9, fd9, ok_distance F9 D2 D3, M9, F9.kp, b9⟩
  have D10 : DfX l.prog w K mg base 5 "is_let" ["pages", "rule", "begin", "page", "moves"] (spIsLet K C_n C_w C_p) := ⟨f10, fd10, ok_islet F10 T D5 D7, M10, F10.kp, b10⟩
  have D11 : DfX l.prog w K mg base 5 "sights" ["pages", "rule", "begin", "page", "moves"] (spSights K C_n C_w C_p C_m) := ⟨f11, fd11, ok_sights F11 T MKm D5 D7 D8, M11, F11.kp, b11⟩
  have D12 : Df l.prog w K mg base 1 "_law_pool" ["_law_script", "_law_k"] (spPool K) := ⟨f12, fd12, ok_pool F12 T, M12, F12.kp, b12⟩
  have D13 : Df l.prog w K mg base 1 "_law_take" ["_law_source", "_law_top"] spTake := ⟨f13, fd13, ok_take F13 T, M13, F13.kp, b13⟩
  have D14 : Df l.prog w K mg base 2 "_law_one" ["_law_source", "_law_things"] spOne := ⟨f14, fd14, ok_one F14 T D13, M14, F14.kp, b14⟩
  have D15 : Df l.prog w K mg base 1 "_law_visited" ["_law_size", "_law_begin", "_law_done"] spVisited := ⟨f15, fd15, ok_visited F15 T, M15, F15.kp, b15⟩
  have D16 : Df l.prog w K mg base 2 "_law_may" ["_law_size", "_law_way", "_law_begin", "_law_done", "_law_spot", "_law_target"] spMay := ⟨f16, fd16, ok_may F16 D15, M16, F16.kp, b16⟩
  have D17 : Df l.prog w K mg base 1 "_law_sights" ["_law_size", "_law_way", "_law_begin", "_law_spot", "_law_steps"] spLSights := ⟨f17, fd17, ok_lsights F17 T, M17, F17.kp, b17⟩
  have D18 : Df l.prog w K mg base 3 "_law_all_let" ["_law_size", "_law_way", "_law_begin", "_law_spot", "_law_steps"] spAll := ⟨f18, fd18, ok_all F18 D16, M18, F18.kp, b18⟩
  have D19 : Df l.prog w K mg base 3 "_law_drawn_moves" ["_law_source", "_law_size", "_law_way", "_law_begin", "_law_spot", "_law_top"] spDrawn := ⟨f19, fd19, ok_drawn F19 T D13 D16, M19, F19.kp, b19⟩
  have D21 : Df l.prog w K mg base 4 "_law_first_wrong" ["_law_size", "_law_way", "_law_begin", "_law_spot", "_law_steps"] spLFirst := ⟨f21, fd21, ok_lfirst F21 T D18, M21, F21.kp, b21⟩
  have DM : DfG l.prog w K mg base 8 "_law_moves_right" psA (spMovesR [(Pt1, lam1), (Pt2, lam2), (Pt3, lam3)]) := ⟨ft1, _, ok_movesR (c := ⟨C_m, C_n, C_w, C_p⟩) ⟨oct1, odt1, kVt1, dct1, pmt1, ant1, ctt1, slt1, rfl, lt1, ck1⟩ T S TB1 hm1 (hu1 ne12 ne13) F20 M20 b20 D10 D11 D21 D17, PySem.W.mg_of X G nt1, kk1, .all fun us hl => match us, hl with | [_, _, _, _, _], _ => rfl⟩
  have DB : DfG l.prog w K mg base 8 "_law_odd_right" psA (spOddR [(Pt1, lam1), (Pt2, lam2), (Pt3, lam3)]) := ⟨ft2, _, ok_oddR (c := ⟨C_m, C_n, C_w, C_p⟩) ⟨oct2, odt2, kVt2, dct2, pmt2, ant2, ctt2, slt2, rfl, lt2, ck2⟩ T S TB2 hm2 (hu2 ne12 ne23) F20 M20 b20 D10 D11 D18, PySem.W.mg_of X G nt2, kk2, .all fun us hl => match us, hl with | [_, _, _, _, _], _ => rfl⟩
  have DV : DfG l.prog w K mg base 8 "_law_values_refused" psV (spRefused [(Pt1, lam1), (Pt2, lam2), (Pt3, lam3)]) := ⟨ft3, _, ok_refused (c := ⟨C_m, C_n, C_w, C_p⟩) ⟨oct3, odt3, kVt3, dct3, pmt3, ant3, ctt3, slt3, rfl, lt3, ck3⟩ T S TB3 hm3 (hu3 ne13 ne23) F20 M20 b20 D9 D10 D11, PySem.W.mg_of X G nt3, kk3, .all fun us hl => match us, hl with | [_, _, _, _], _ => rfl⟩
  exact ok_law (c := ⟨C_m, C_n, C_w, C_p⟩) FL T hR sR D12 D13 D14 D15 D9 D19 DM DB DV
end Pl

open PyProof.Rows PySem PySem.W in
set_option maxRecDepth 100001 in
set_option maxHeartbeats 0 in
theorem PySem.Challenge.cw_plainstore_k21_moves_and_sights_holds : PySem.Challenge.rw_plainstore_k21_moves_and_sights.Holds := by
  (w_on; o_law; k_head); (case hw => w_witness2)
  k_fill
  refine Pl.walkP (l := PySem.Challenge.rw_plainstore_k21_moves_and_sights) rfl (by decide) rfl (fun w h Y => km_in_of Y) ?F
  case F =>
    intro w mg fa h Y KX G hmg
    refine' Pl.all_mk KX G hmg ?A0 ?A1 ?A2 ?A3 ?A4 ?A5 ?A6 ?A7 ?A8 ?A9 ?A10 ?A11 ?A12 ?A13 ?A14 ?A15 ?A16 ?A17 ?A18 ?A19 ?A20 ?A21 ?A22 ?z_isinstance ?z_len ?z_int ?z_bool ?z_str ?z_list ?z_tuple ?z_range ?z_max ?z_min ?z_repr ?z_enumerate ?g_pages ?nR_ ?lR ?nt1 ?lt1 ?ck1 ?kk1 ?lc1 ?hP1 ?hcd1 ?notK1 ?tab1 ?nt2 ?lt2 ?ck2 ?kk2 ?lc2 ?hP2 ?hcd2 ?notK2 ?tab2 ?nt3 ?lt3 ?ck3 ?kk3 ?lc3 ?hP3 ?hcd3 ?notK3 ?tab3 ?ne12 ?ne13 ?ne23 ?nCn ?xLn ?x5n ?x6n ?x7n ?iIn ?tIn ?nTn ?lIn ?cIn ?kIn ?x1n ?x2n ?x3n ?x4n ?nCp ?xLp ?x5p ?x6p ?x7p ?iIp ?tIp ?nTp ?lIp ?cIp ?kIp ?x1p ?x2p ?x3p ?x4p ?nCw ?xLw ?x5w ?x6w ?x7w ?iIw ?tIw ?nTw ?lIw ?cIw ?kIw ?x1w ?x2w ?x3w ?x4w ?nCm ?xLm ?x5m ?x6m ?x7m ?iIm ?tIm ?nTm ?lIm ?cIm ?kIm ?x1m ?x2m ?x3m ?x4m ?smm ?snm ?snn ?swm ?swn ?sww ?spm ?spn ?spw ?spp
    (case A0 => (refine' ⟨_, _, ?a, L2.fun_mk ?l ?c ?k⟩; (case a => k_is); (case l => k_is); (case c => k_is); (case k => k_is)))
    (case A1 => (refine' ⟨_, _, ?a, L2.fun_mk ?l ?c ?k⟩; (case a => k_is); (case l => k_is); (case c => k_is); (case k => k_is)))
    (case A2 => (refine' ⟨_, _, ?a, L2.fun_mk ?l ?c ?k⟩; (case a => k_is); (case l => k_is); (case c => k_is); (case k => k_is)))
    (case A3 => (refine' ⟨_, _, ?a, L2.fun_mk ?l ?c ?k⟩; (case a => k_is); (case l => k_is); (case c => k_is); (case k => k_is)))
    (case A4 => (refine' ⟨_, _, ?a, L2.fun_mk ?l ?c ?k⟩; (case a => k_is); (case l => k_is); (case c => k_is); (case k => k_is)))
    (case A5 => (refine' ⟨_, _, ?a, L2.fun_mk ?l ?c ?k⟩; (case a => k_is); (case l => k_is); (case c => k_is); (case k => k_is)))
    (case A6 => (refine' ⟨_, _, ?a, L2.fun_mk ?l ?c ?k⟩; (case a => k_is); (case l => k_is); (case c => k_is); (case k => k_is)))
    (case A7 => (refine' ⟨_, _, ?a, L2.fun_mk ?l ?c ?k⟩; (case a => k_is); (case l => k_is); (case c => k_is); (case k => k_is)))
    (case A8 => (refine' ⟨_, _, ?a, L2.fun_mk ?l ?c ?k⟩; (case a => k_is); (case l => k_is); (case c => k_is); (case k => k_is)))
    (case A9 => (refine' ⟨_, _, ?a, L2.fun_mk ?l ?c ?k⟩; (case a => k_is); (case l => k_is); (case c => k_is); (case k => k_is)))
    (case A10 => (refine' ⟨_, _, ?a, L2.fun_mk ?l ?c ?k⟩; (case a => k_is); (case l => k_is); (case c => k_is); (case k => k_is)))
    (case A11 => (refine' ⟨_, _, ?a, L2.fun_mk ?l ?c ?k⟩; (case a => k_is); (case l => k_is); (case c => k_is); (case k => k_is)))
    (case A12 => (refine' ⟨_, _, ?a, L2.fun_mk ?l ?c ?k⟩; (case a => k_is); (case l => k_is); (case c => k_is); (case k => k_is)))
    (case A13 => (refine' ⟨_, _, ?a, L2.fun_mk ?l ?c ?k⟩; (case a => k_is); (case l => k_is); (case c => k_is); (case k => k_is)))
    (case A14 => (refine' ⟨_, _, ?a, L2.fun_mk ?l ?c ?k⟩; (case a => k_is); (case l => k_is); (case c => k_is); (case k => k_is)))
    (case A15 => (refine' ⟨_, _, ?a, L2.fun_mk ?l ?c ?k⟩; (case a => k_is); (case l => k_is); (case c => k_is); (case k => k_is)))
    (case A16 => (refine' ⟨_, _, ?a, L2.fun_mk ?l ?c ?k⟩; (case a => k_is); (case l => k_is); (case c => k_is); (case k => k_is)))
    (case A17 => (refine' ⟨_, _, ?a, L2.fun_mk ?l ?c ?k⟩; (case a => k_is); (case l => k_is); (case c => k_is); (case k => k_is)))
    (case A18 => (refine' ⟨_, _, ?a, L2.fun_mk ?l ?c ?k⟩; (case a => k_is); (case l => k_is); (case c => k_is); (case k => k_is)))
    (case A19 => (refine' ⟨_, _, ?a, L2.fun_mk ?l ?c ?k⟩; (case a => k_is); (case l => k_is); (case c => k_is); (case k => k_is)))
    (case A20 => (refine' ⟨_, _, ?a, L2.fun_mk ?l ?c ?k⟩; (case a => k_is); (case l => k_is); (case c => k_is); (case k => k_is)))
    (case A21 => (refine' ⟨_, _, ?a, L2.fun_mk ?l ?c ?k⟩; (case a => k_is); (case l => k_is); (case c => k_is); (case k => k_is)))
    (case A22 => (refine' ⟨_, _, ?a, L2.fun_mk ?l ?c ?k⟩; (case a => k_is); (case l => k_is); (case c => k_is); (case k => k_is)))
    (case z_isinstance => k_is)
    (case z_len => k_is)
    (case z_int => k_is)
    (case z_bool => k_is)
    (case z_str => k_is)
    (case z_list => k_is)
    (case z_tuple => k_is)
    (case z_range => k_is)
    (case z_max => k_is)
    (case z_min => k_is)
    (case z_repr => k_is)
    (case z_enumerate => k_is)
    (case g_pages => k_is)
    (case nR_ => k_is)
    (case lR => k_is)
    (case nt1 => k_is)
    (case lt1 => k_is)
    (case ck1 => k_is)
    (case kk1 => k_is)
    (case lc1 => k_is)
    (case hP1 => rfl)
    (case hcd1 => kernel_rfl)
    (case notK1 => kernel_rfl)
    (case tab1 => exact PySem.W.km_tabs_of Y _ (by simp))
    (case nt2 => k_is)
    (case lt2 => k_is)
    (case ck2 => k_is)
    (case kk2 => k_is)
    (case lc2 => k_is)
    (case hP2 => rfl)
    (case hcd2 => kernel_rfl)
    (case notK2 => kernel_rfl)
    (case tab2 => exact PySem.W.km_tabs_of Y _ (by simp))
    (case nt3 => k_is)
    (case lt3 => k_is)
    (case ck3 => k_is)
    (case kk3 => k_is)
    (case lc3 => k_is)
    (case hP3 => rfl)
    (case hcd3 => kernel_rfl)
    (case notK3 => kernel_rfl)
    (case tab3 => exact PySem.W.km_tabs_of Y _ (by simp))
    (case ne12 => decide)
    (case ne13 => decide)
    (case ne23 => decide)
    (case nCn => k_is)
    (case xLn => k_is)
    (case x5n => k_is)
    (case x6n => k_is)
    (case x7n => k_is)
    (case iIn => k_is)
    (case tIn => k_is)
    (case nTn => k_is)
    (case lIn => k_is)
    (case cIn => k_is)
    (case kIn => k_is)
    (case x1n => k_is)
    (case x2n => k_is)
    (case x3n => k_is)
    (case x4n => k_is)
    (case nCp => k_is)
    (case xLp => k_is)
    (case x5p => k_is)
    (case x6p => k_is)
    (case x7p => k_is)
    (case iIp => k_is)
    (case tIp => k_is)
    (case nTp => k_is)
    (case lIp => k_is)
    (case cIp => k_is)
    (case kIp => k_is)
    (case x1p => k_is)
    (case x2p => k_is)
    (case x3p => k_is)
    (case x4p => k_is)
    (case nCw => k_is)
    (case xLw => k_is)
    (case x5w => k_is)
    (case x6w => k_is)
    (case x7w => k_is)
    (case iIw => k_is)
    (case tIw => k_is)
    (case nTw => k_is)
    (case lIw => k_is)
    (case cIw => k_is)
    (case kIw => k_is)
    (case x1w => k_is)
    (case x2w => k_is)
    (case x3w => k_is)
    (case x4w => k_is)
    (case nCm => k_is)
    (case xLm => k_is)
    (case x5m => k_is)
    (case x6m => k_is)
    (case x7m => k_is)
    (case iIm => k_is)
    (case tIm => k_is)
    (case nTm => k_is)
    (case lIm => k_is)
    (case cIm => k_is)
    (case kIm => k_is)
    (case x1m => k_is)
    (case x2m => k_is)
    (case x3m => k_is)
    (case x4m => k_is)
    (case smm => k_is)
    (case snm => k_is)
    (case snn => k_is)
    (case swm => k_is)
    (case swn => k_is)
    (case sww => k_is)
    (case spm => k_is)
    (case spn => k_is)
    (case spw => k_is)
    (case spp => k_is)

