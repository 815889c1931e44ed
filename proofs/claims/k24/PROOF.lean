import PyProof.Rows.All
import Wide.All
import OpenK.AllK
import Wide.FinOn
import PySem.Challenge.RW_cornerlines_k24_how_far_off
import HandS.ForMost
import HandS.Wide
import HandS.EndBits
import HandS.AnyAll
import HandS.EndTab
import PyProof.ReprRoads
import KE.KRevSl
import HandS.IsInst
import HandS.TryOnly
import PyProof.GenCompD
import KE.KIsAll
import KE.DataMinMax
import HandS.TupSets
import KE.SortData
import HandS.Style
import KE.GoesNew
import KE.GoesMore
import HandS.Iter
import HandS.Zip
import HandS.Star
import HandS.Walk
import HandS.SortInts
import HandS.TupAny
import KE.GoesEnum
import PyProof.WalksPairs
import HandS.Lambda
import KE.KMinKey
import HandS.SortKw
import HandS.DictTup
import HandS.SetKeys
import HandS.SortRule
import HandS.Conv
import PyProof.DictMoreH
import KE.KSortTupAny
import HandS.SortOrd
import KE.SortKeyHeap
import PyProof.EqKinds
import PyProof.NeKinds
import PyProof.NeData
import PyProof.Rows.IntBool
import PyProof.Rows.ReprOcc
import PyProof.Rows.StrFit
import HandS.TupLen
set_option Elab.async false
set_option linter.all false
set_option maxRecDepth 100000
namespace Cl
open PySem PySem.Spec PyProof.Rows L2

/-! ### promises of defs that may be shown (repr) what stands on no guard's list -/
structure RG (k : Nat) (A : Around) : Prop where
  room : Room k A
  gd : A.guards = some []
theorem RG.mono {j k : Nat} {A : Around} (r : RG k A) (h : j ≤ k) : RG j A :=
  ⟨r.room.mono h, r.gd⟩
structure FnG (P : Program) (w : World) (K : PySem.W.Frag) (mg : Str → Option Value)
    (base : Heap) (CX : CXT) (k : Nat) (f : Addr) (fd : FuncData) (ps : List Str) (sp : Sp) : Prop where
  len : ∀ vs H Q E, sp vs H Q E → vs.length = ps.length
  run : ∀ A outer s H args us vs Q E, RG k A → Env0 P w K mg base A outer s H →
    BindsTo s fd args (ps.zip us) → Vals vs us → sp vs H Q E →
    codeAny (model P w) A (.call (.ref f) args) (CR CX outer P w H s Q E) s
section
variable {P : Program} {w : World} {K : PySem.W.Frag} {mg : Str → Option Value} {base : Heap} {CX : CXT}
theorem toG {k : Nat} {f : Addr} {fd : FuncData} {ps : List Str} {sp : Sp}
    (F : FnOk P w K mg base CX k f fd ps sp) : FnG P w K mg base CX k f fd ps sp :=
  ⟨F.len, fun A outer s H args us vs Q E r => F.run A outer s H args us vs Q E r.room⟩

/-- a def with what its body does, where no guard is set -/
theorem okG {x qual : Str} {st : Stmt} {f : Addr} {fd : FuncData} {N ps : List Str} {k : Nat} {sp : Sp}
    (F : Fun K x qual st f fd) (S : FnScope N ps (defScope st))
    (len : ∀ vs H Q E, sp vs H Q E → vs.length = ps.length)
    (body : ∀ (cdv : Value) (A : Around) (outer : List Env) (s : Shared) (H : Hp) (vs : List V) (Q : VK) (E : XK),
      RG k (A.deeper (envOfC qual (defScope st) s.heap.objs.size f cdv)) → sp vs H Q E →
      ∃ t, PSs (cxOf CX0 P w K mg base N qual (defScope st) f cdv A outer s H E).nox (defBody st) t ∧
        t { nx := fun _ H' => Q .non H', rt := Q } (start N vs) H) :
    FnG P w K mg base CX0 (k + 1) f fd ps sp := by
  obtain ⟨oc, od, kV, doc, pm, an, cdv, ct, osl, rfl, lk, hcd⟩ := F.ex
  constructor
  · exact len
  intro A outer s H args us vs Q E hr e0 hb r hsp
  have nvs := len _ _ _ _ hsp
  have keepB : ∀ b o, base.get? b = some o → s.heap.get? b = some o := fun b o z => (e0.bs b o z).1
  have inK : K.In s.heap := e0.mod.kin.keeps keepB
  have nolim : s.heap.NoLimit := e0.mod.nolimit.keeps keepB
  have kinds : ∀ y ∈ ps.zip us, (defScope st).names.lookup y.1 = some .local ∨
      ((defScope st).names.lookup y.1 = some .cell ∧
        ((cellsFrom (s.heap.objs.size + 1) (defScope st).names []).lookup y.1).isSome = true) := by
    rintro ⟨n, v⟩ hy
    rcases S.par n (List.of_mem_zip hy).1 with z | z
    · exact .inl z
    · exact .inr ⟨z, PySem.W.cellsFrom_some _ _ _ (.inl z)⟩
  refine codeAny_call_function hr.room.depth (inK _ _ lk) rfl S.co S.gen rfl
    (PySem.W.codeRec_of inK hcd) (hb _ _ _ _ ?_)
  refine wpAny_newFunctionEnv_cells S.kind kinds fun env he s1 x => ?_
  subst he
  refine ⟨nolim.keeps x.toInCall.keep, codeAny_func ?_⟩
  have hr2 : RG k (A.deeper (envOfC qual (defScope st) s.heap.objs.size f cdv)) := ⟨hr.room.deeper _, hr.gd⟩
  obtain ⟨t, ht, hq⟩ := body cdv A outer s H vs Q E hr2 hsp
  have I : Inv (cxOf CX0 P w K mg base N qual (defScope st) f cdv A outer s H E) [] (start N vs) H s1 :=
    inv_start S hr.room.hd e0 nvs r x
  refine wpAny_mono (ht.nox.run [] s1 (start N vs) H _ I hq) (fun fl s' hs => ?_) fun _ _ z => z
  match fl, hs with
  | .ret u, ⟨v, σ', H', J, rv, q⟩ => exact ⟨v, H', J.os, J.bare, J.base, J.hok, rv, q⟩
  | .next, ⟨σ', H', J, q⟩ => exact ⟨V.non, H', J.os, J.bare, J.base, J.hok, rfl, q⟩
  | .brk, ⟨_, _, _, q⟩ => exact q.elim
  | .cont, ⟨_, _, _, q⟩ => exact q.elim
end

section
variable {X : Cx} {CX : CXT} {k : Nat} {f : Addr} {fd : FuncData} {ps : List Str} {sp : Sp} {dvs : List V}
  {ds : List Value} {E : XK} {x : Str} {p pos : Pos} {e : Expr} {es : List Expr} {t : TA}
/-- f(e, ..) of such a def -/
theorem callG (F : FnG X.prog X.w X.K X.mg X.base CX k f fd ps sp) (hr : RG k X.A) (hg : Gl X x)
    (hm : X.mg x = some (.ref f)) (hk : PySem.W.keepIn X.K (.ref f) = true) (hb : Binds X.K fd ps ds)
    (hd : Vals dvs ds) (hx : Passes CX X E) (ha : PA X (e :: es) t)
    (hdb : (x == ("__debug__" : Str)) = false := by decide)
    (he : starEach (e :: es) X.env = (false, eval e X.env) :: starEach es X.env := by rfl)
    (hpl : (backTo pos (starEach es X.env)).any (·.1) = false := by rfl) :
    PE X (.Call (.Name x p) (e :: es) [] pos) (tCall sp dvs E t) := by
  constructor
  intro pins s σ H Q I h
  refine wpAny_Call_Name_kw (ld_glob I hg hm ?_ hdb)
  refine PySem.W.callWith_K (h₀ := X.base) I.ok.mod.kin hk ?_ he hpl
  refine thn (ha.run pos pins s σ H _ I h) fun us s1 ⟨vs, H1, I1, r, q⟩ => ⟨I1.kIn, ?_⟩
  have r2 : Vals (vs ++ dvs) (us ++ ds) := r.append hd
  have n2 : (us ++ ds).length = ps.length := r2.length.symm.trans (F.len _ _ _ _ q)
  have run := F.run X.A X.stack s1 H1 ⟨us, []⟩ (us ++ ds) (vs ++ dvs) Q E hr I1.env0 (hb s1 us I1.kIn n2) r2 q
  refine wpAny_call (codeAny_mono run fun res s' hq => ?_)
  match res, hq with
  | .error ee, hq => exact hx pins σ H1 s1 ee s' I1 hq
  | .ok (.ret u), hq => exact I1.after hq
  | .ok .next, hq => exact hq.elim
  | .ok .brk, hq => exact hq.elim
  | .ok .cont, hq => exact hq.elim
end

/-! ### repr of data -/
section
variable {X : Cx}
/-- what repr asks of a datum that stands at v -/
def rRepr (K : PySem.W.Frag) : List V → Hp → VK → Prop := fun xs H Q => ∃ v d, xs = [v] ∧ Dp K H v d ∧
  d.showable = true ∧ d.hasDict = false ∧ d.depth ≤ 60 ∧ d.shown.length ≤ sizeLine ∧ Q (.str d.shown) H
theorem call_reprD (hg : X.A.guards = some []) (hu : X.A.units + 64 < cLine) : CallR X (.builtin "repr") (rRepr X.K) := by
  intro pins s σ H xs us Q I r h
  obtain ⟨v, d, rfl, hd, hs, hn, hdp, hl, q⟩ := h
  obtain ⟨u, rfl, ru⟩ := vals1 r
  cases hd with
  | non => cases ru; exact PySem.P.repr_of_none ⟨.str _, H, I.tok _, ⟨_, rfl⟩, q⟩
  | bl b => cases ru; exact PySem.P.repr_of_bool ⟨.str _, H, I.tok _, ⟨_, rfl⟩, q⟩
  | int i => obtain ⟨t, rfl⟩ := ru; exact PySem.P.repr_of_int (by simpa [PyData.showable] using hs) ⟨.str _, H, I.tok _, ⟨_, rfl⟩, q⟩
  | str x => obtain ⟨t, rfl⟩ := ru; exact PySem.P.repr_of_str ⟨.str _, H, I.tok _, ⟨_, rfl⟩, q⟩ (by simpa [PyData.shown] using hl)
  | lst h1 h2 =>
    cases ru
    obtain ⟨as, rd⟩ := Dp.reads I _ _ _ (Dp.lst h1 h2) rfl
    exact repr_of_reads' rd hs (fun z => by rw [hn] at z; cases z) hg (by omega) (fun _ _ z => z) (fun h' u tk hk => ⟨.str _, H, I.kept hk, ⟨_, rfl⟩, q⟩) hl
  | tup h1 h2 =>
    cases ru
    obtain ⟨as, rd⟩ := Dp.reads I _ _ _ (Dp.tup h1 h2) rfl
    exact repr_of_reads' rd hs (fun z => by rw [hn] at z; cases z) hg (by omega) (fun _ _ z => z) (fun h' u tk hk => ⟨.str _, H, I.kept hk, ⟨_, rfl⟩, q⟩) hl
end
/-! ### the end: the law's call, from a promise of this kind -/
theorem endG {l : PySem.W.OpenLaw} {n k : Nat} {q : Program} {loose : List Str} {XP : (Str → Option Value) → Heap → Prop}
    {YP : World → Heap → Prop} {d : DefRec} {K : Params → PySem.W.Frag} {sp : World → Sp} {x : Str}
    (hn : l.most = some n) (hn2 : n ≤ sizeLine) (hdf : d.params.defaults = []) (hr : RG k callerA)
    (hY : ∀ (w : World) (h : Heap), YP w h → (K w.params).In h)
    (F : ∀ (w : World) (mg : Str → Option Value) (fa : Addr) (h : Heap), (K w.params).In h → h.Ns mainGlobals mg →
      mg d.name = some (.ref fa) → ∃ fd : FuncData, (∀ (s : Shared) (u : Value), BindsTo s fd ⟨[u], []⟩ [(x, u)]) ∧
        ∀ base : Heap, (K w.params).In base → base.Ns mainGlobals mg → FnG l.prog w (K w.params) mg base CX0 k fa fd [x] (sp w))
    (hsp : ∀ (w : World) (H : Hp) (a : Addr) (ns : List Int), ns.length ≤ n → (∀ z ∈ ns, Builtin.Int.intBits z ≤ 1048576) →
      Only H → SqL (K w.params) H a (ns.map V.int) → sp w [.ref a] H (fun v _ => v = .bl true) E0) :
    PySem.W.WalkO q loose XP YP l.row.toRowW d [] (fun f vs => PySem.call f vs) := by
  refine Att.attach_callB hn hdf fun w s₀ s1 mg mb fa o pm cd doc a us ns G Y ho hd hcd hmg obj hints nlen bits gens => ?_
  have inK : (K w.params).In s1.heap := hY w _ Y
  obtain ⟨fd, bind, hF⟩ := F w mg fa _ inK G.T.g hmg
  have rv := vals_ints hints
  have nv : us.length = ns.length := hints.length
  have go : ∀ H : Hp, Only H → SqL (K w.params) H a (ns.map V.int) → HOk l.prog w H s1.heap → (∀ b, H b ≠ none → b = a) →
      (H a ≠ none → (K w.params).lookup a = none) → codeAny (model l.prog w) callerA (.call (.ref fa) ⟨[.ref a], []⟩)
        (fun r s' => r = .ok (.ret (.bool true)) ∧ OldK s1.heap s'.heap ∧ s'.os = s1.os ∧ AllBare s'.gens) s1 := by
    intro H only hS hok atA offK
    have none_or : ∀ b, H b = none ∨ b = a := fun b => by
      cases z : H b with
      | none => exact .inl rfl
      | some u => exact .inr (atA b (by rw [z]; intro y; cases y))
    have left : ∀ {b : Addr} {o : Obj}, s1.heap.get? b = some o → H b = none → (hidT s1.heap H).get? b = some o :=
      fun e z => hidT_get e z
    have notA : ∀ {b : Addr} {o : Obj} {es : Array DictEntry} {ep : Nat},
        s1.heap.get? b = some o → o.data = .dict es ep → H b = none := fun {b o es ep} e z => by
      rcases none_or b with y | rfl
      · exact y
      · rw [obj] at e
        cases e
        cases (show Data.seq us.toArray _ = Data.dict es ep from z)
    have spaces : ∀ {b : Addr} {m : Str → Option Value}, s1.heap.Ns b m → (hidT s1.heap H).Ns b m :=
      fun {b m} ⟨o, es, ep, e, z, r⟩ => ⟨o, es, ep, left e (notA e z), z, r⟩
    have inB : (K w.params).In (hidT s1.heap H) := fun b o e => left (inK b o e) (by
      rcases none_or b with y | rfl
      · exact y
      · cases z : H b with
        | none => rfl
        | some u =>
          rw [offK (by rw [z]; intro y; cases y)] at e
          cases e)
    have md : Mod (K w.params) mg (hidT s1.heap H) := by
      obtain ⟨mc, c1, c2⟩ := G.T.nolimit
      exact ⟨inB, spaces G.T.g, ⟨mb, spaces G.T.b, G.T.builtins⟩, ⟨mc, spaces c1, c2⟩⟩
    have e0 : Env0 l.prog w (K w.params) mg (hidT s1.heap H) callerA [] s1 H :=
      ⟨rfl, md, fun b o e => of_hidT e, Nat.le_of_eq (hidT_size _ _), trivial, fun b z => (nomatch z), hok, .of_eq gens⟩
    have run := (hF _ inB (spaces G.T.g)).run callerA [] s1 H ⟨[.ref a], []⟩ [.ref a] [.ref a] _ _ hr e0
      (bind s1 (.ref a)) (.cons rfl .nil) (hsp w H a ns nlen bits only hS)
    refine codeAny_mono run fun res s' h => ?_
    match res, h with
    | .error e, h => exact h.elim
    | .ok .next, h => exact h.elim
    | .ok .brk, h => exact h.elim
    | .ok .cont, h => exact h.elim
    | .ok (.ret u), ⟨v, H', os, bare, un, hok', r', q⟩ =>
      have q' : v = .bl true := q
      subst q'
      have r2 : u = Value.bool true := r'
      subst r2
      refine ⟨rfl, OldK.of_keep fun b o e => ?_, os, bare⟩
      cases z : H b with
      | none => exact un.keep b o e z (fun y => (nomatch y)) (fun y => (nomatch y))
      | some u =>
        rcases only b with y | ⟨ob, xs, y⟩
        · rw [z] at y
          cases y
        · obtain ⟨e1, _⟩ := hok b _ y
          obtain ⟨e2, _⟩ := hok' b _ (un.frzs b ob _ y)
          rw [e] at e1
          cases e1
          exact e2
  have small : ns.length ≤ sizeLine := Nat.le_trans nlen hn2
  cases hk : (K w.params).lookup a with
  | some o =>
    have e := inK a o hk
    rw [obj] at e
    cases e
    refine go (fun _ => none) (fun _ => .inl rfl) (.inr ⟨_, us.toArray, _, hk, rfl, rfl, rfl, ?_, by simpa using rv⟩)
      (fun b u z => nomatch z) (fun b z => absurd rfl z) fun z => absurd rfl z
    rw [List.size_toArray, nv]
    exact small
  | none =>
    let ob : Obj := { cls := .type "list", data := .seq us.toArray }
    have at_ : ∀ b, (fun c => if c = a then some (HO.frz ob (.lst (ns.map V.int))) else none : Hp) b ≠ none → b = a := fun b z => by
      by_cases y : b = a
      · exact y
      · exact absurd (if_neg y) z
    refine go (fun c => if c = a then some (.frz ob (.lst (ns.map V.int))) else none) (fun b => ?_) (.inl (.inr ⟨ob, if_pos rfl⟩))
      (fun b u z => ?_) at_ fun _ => hk
    · by_cases y : b = a
      · exact .inr ⟨_, _, if_pos y⟩
      · exact .inl (if_neg y)
    · obtain rfl := at_ b (by rw [z]; intro y; cases y)
      have z' := (if_pos rfl).symm.trans z
      cases z'
      exact ⟨obj, by rw [List.length_map]; exact small, us, _, rv, obj⟩
end Cl

namespace Cl
open PySem PySem.Spec PyProof.Rows L2
/-- what stood there stands there; a code object's table may have grown -/
def Keep (x : Option HO) (o : HO) : Prop := match o with
  | .tbl ps => TriplesOk ps.toList → ∃ ps' : Array Value, x = some (.tbl ps') ∧ TriplesOk ps'.toList
  | o => x = some o
theorem Keep.of {x : Option HO} {o : HO} (h : x = some o) : Keep x o := by
  cases o <;> first | exact h | exact fun t => ⟨_, h, t⟩
def Same (H H' : Hp) : Prop := ∀ b o, H b = some o → Keep (H' b) o
theorem Same.refl (H : Hp) : Same H H := fun _ _ e => .of e
theorem Same.trans {H H1 H2 : Hp} (a : Same H H1) (b : Same H1 H2) : Same H H2 := fun c o h => by
  have k := a c o h
  cases o with
  | tbl ps => exact fun t => let ⟨ps1, e1, t1⟩ := k t; b c (.tbl ps1) e1 t1
  | _ => exact b c _ k
theorem Same.upN {H H' : Hp} {p : Addr} {o : HO} (s : Same H H') (h : H p = none) : Same H (upd H' p o) := fun b x e => by
  rw [upd_ne (ne_of_none e h)]
  exact s b x e
theorem same_new {H : Hp} {p : Addr} {o : HO} (h : H p = none) : Same H (upd H p o) := (Same.refl H).upN h
/-- what is handed on where a new object stands at its place -/
def New (H : Hp) (o : HO) (Q : VK) : Prop := ∀ p H', H p = none → Same H H' → H' p = some o → Q (.ref p) H'
theorem New.go {H : Hp} {o : HO} {Q : VK} (h : New H o Q) : ∀ p, H p = none → Q (.ref p) (upd H p o) :=
  fun p n => h p _ n (same_new n) upd_same
section
variable {X : Cx} {e : Expr} {te : TE}
theorem valsRev : ∀ {xs : List V} {us : List Value}, Vals xs us → Vals xs.reverse us.reverse
  | _, _, .nil => .nil
  | _, _, .cons r t => by
    rw [List.reverse_cons, List.reverse_cons]
    exact (valsRev t).append (.cons r .nil)
/-- xs[::-1] of a list -/
def tRevL (K : PySem.W.Frag) (te : TE) : TE := fun σ H Q => te σ H fun x H1 => ∃ a xs, x = .ref a ∧ SqL K H1 a xs ∧ New H1 (.lst xs.reverse) Q
theorem pe_revL {p0 p1 p2 pos : Pos} {j : Nat} (he : PE X e te) :
    PE X (.Subscript e (.Slice none none (some (.UnaryOp .USub (.Constant (.int 1) j p0) p1)) p2) pos) (tRevL X.K te) := by
  constructor
  intro pins s σ H Q I h
  refine Subscript_ (thn (he.run pins s σ H _ I h) fun v s1 ⟨x, H1, I1, r1, a, xs, hx, hl, q⟩ => ?_)
  subst hx
  cases r1
  refine wpAny_Slice ?_
  rw [evalPart_none]
  refine wpAny_pure ?_
  refine wpAny_pure ?_
  rw [evalPart_some]
  have hneg : PE X (.UnaryOp .USub (.Constant (.int 1) j p0) p1) _ := pe_un un_neg pe_int
  refine thn (hneg.run pins s1 σ H1 (fun y H2 => y = .int (-1) ∧ H2 = H1) I1 ⟨1, rfl, rfl, rfl⟩) fun u s2 ⟨y, H2, I2, ry, hy, hH⟩ => ?_
  subst hy hH
  obtain ⟨t, rfl⟩ := ry
  obtain ⟨its, r, ht, hz⟩ := I2.list hl
  have I4 : Inv X pins σ H2 { s2 with heap := s2.heap.push { cls := .type "slice", data := .fields #[.none, .none, .int (-1) t] } } :=
    I2.kept (t' := s2.toks) fun b ob q => Heap.get?_push_of_some _ q
  obtain ⟨its, r, ht, hz⟩ := I4.list hl
  have hlen := r.length
  refine tail_any ht.isList.typeIs slot_list_getitem.lookup ?_ (by with_unfolding_all rfl)
  refine wpAny_getItem_list_slice ht.isList (Heap.IsSliceOf.new ..) .none .none (.int (-1) t) (by decide) ?_ (by rw [List.size_toArray] <;> omega)
  rw [PySem.W.krv_pick]
  refine ⟨.ref _, _, I4.laid (t' := s2.toks) (o := .lst xs.reverse) (fun b ob q => Heap.get?_push_of_some _ q) (Nat.le_refl _) ?_, rfl, q.go _ (I4.hok.fresh (Nat.le_refl _))⟩
  exact ⟨by rw [List.length_reverse]; exact hz, _, 0, valsRev r, Heap.get?_push_size _ rfl⟩
end
end Cl

namespace Cl
open PySem PySem.Spec PyProof.Rows L2

/-! ### a def of the text, with its promise -/
structure Def (P : Program) (w : World) (K : PySem.W.Frag) (mg : Str → Option Value) (base : Heap)
    (k : Nat) (x : Str) (ps : List Str) (sp : Sp) : Prop where
  ex : ∃ f fd, FnG P w K mg base CX0 k f fd ps sp ∧ mg x = some (.ref f) ∧
    PySem.W.keepIn K (.ref f) = true ∧ Binds K fd ps []
section
variable {X : Cx} {k : Nat} {ps : List Str} {sp : Sp} {x : Str} {p pos : Pos} {e : Expr} {es : List Expr} {t : TA}
theorem callD (D : Def X.prog X.w X.K X.mg X.base k x ps sp) (hr : RG k X.A) (ha : PA X (e :: es) t)
    (hg : Gl X x := by rfl) (hdb : (x == ("__debug__" : Str)) = false := by decide)
    (he : starEach (e :: es) X.env = (false, eval e X.env) :: starEach es X.env := by rfl)
    (hpl : (backTo pos (starEach es X.env)).any (·.1) = false := by rfl) :
    PE X (.Call (.Name x p) (e :: es) [] pos) (tCall sp [] E0 t) := by
  obtain ⟨f, fd, F, hm, hk, hb⟩ := D.ex
  exact callG F hr hg hm hk hb .nil pass0 ha hdb he hpl
end
section
variable {P : Program} {w : World} {K : PySem.W.Frag} {mg : Str → Option Value} {base : Heap}
theorem Def.mk1 {k : Nat} {x qual : Str} {st : Stmt} {f : Addr} {fd : FuncData} {ps : List Str} {sp : Sp}
    (F : Fun K x qual st f fd) (G : FnG P w K mg base CX0 k f fd ps sp) (hm : mg x = some (.ref f))
    (b : Binds K fd ps []) : Def P w K mg base k x ps sp := ⟨f, fd, G, hm, F.kp, b⟩
end

/-! ### heaps -/
theorem Same.rfl' {H : Hp} : Same H H := .refl H
/-! ### rules that hand on a heap in which a new object stands -/
section
variable {X : Cx} {es : List Expr} {e : Expr} {t : TA} {te : TE} {pos : Pos}
def tTupN (t : TA) : TE := fun σ H Q => t σ H fun xs H1 => xs.length ≤ sizeLine ∧ New H1 (.tup xs) Q
def tLstN (t : TA) : TE := fun σ H Q => t σ H fun xs H1 => xs.length ≤ sizeLine ∧ New H1 (.lst xs) Q
theorem tupN {j} (h : PA X es t) : PE X (.Tuple es j pos) (tTupN t) := by
  constructor
  intro pins s σ H Q I hq
  refine wpAny_Tuple_spliced ?_
  refine thn (h.run pos pins s σ H _ I hq) fun us s1 ⟨xs, H1, I1, r, z, q⟩ => ⟨by rw [← r.length]; exact z, ?_⟩
  refine ⟨.ref s1.heap.objs.size, _, I1.laid (t' := s1.toks) (o := .tup xs) (fun b u e => Heap.get?_push_of_some _ e) (Nat.le_refl _) ?_, rfl,
    q.go _ (I1.hok.fresh (Nat.le_refl _))⟩
  exact ⟨z, us, r, ⟨_, Heap.get?_push_size _ rfl, rfl, _, rfl⟩⟩
theorem lstN (h : PA X es t) : PE X (.List es pos) (tLstN t) := by
  constructor
  intro pins s σ H Q I hq
  refine wpAny_List_spliced ?_
  refine thn (h.run pos pins s σ H _ I hq) fun us s1 ⟨xs, H1, I1, r, z, q⟩ => ⟨by rw [← r.length]; exact z, ?_⟩
  refine ⟨.ref s1.heap.objs.size, _, I1.laid (t' := s1.toks) (o := .lst xs) (fun b u e => Heap.get?_push_of_some _ e) (Nat.le_refl _) ?_, rfl,
    q.go _ (I1.hok.fresh (Nat.le_refl _))⟩
  exact ⟨z, us, 0, r, Heap.get?_push_size _ rfl⟩
def rSlLN (K : PySem.W.Frag) : V → Option Int → Option Int → Hp → VK → Prop := fun x lo hi H Q =>
  ∃ a xs, x = .ref a ∧ SqL K H a xs ∧ New H (.lst (cutV xs lo hi)) Q
theorem sl_listN : SlR X (rSlLN X.K) := fun pins s σ H x v vl vu lo hi sl Q I rx hs pl pu ⟨a, xs, h1, h2, q⟩ =>
  sl_list pins s σ H x v vl vu lo hi sl Q I rx hs pl pu ⟨a, xs, h1, h2, q.go⟩
def rSlTN (K : PySem.W.Frag) : V → Option Int → Option Int → Hp → VK → Prop := fun x lo hi H Q =>
  ∃ a xs, x = .ref a ∧ SqT K H a xs ∧ ¬ (HT.sIx xs.length 0 lo = 0 ∧ HT.sIx xs.length xs.length hi = xs.length) ∧ New H (.tup (cutV xs lo hi)) Q
theorem sl_tupN : SlR X (rSlTN X.K) := fun pins s σ H x v vl vu lo hi sl Q I rx hs pl pu ⟨a, xs, h1, h2, h3, q⟩ =>
  sl_tup pins s σ H x v vl vu lo hi sl Q I rx hs pl pu ⟨a, xs, h1, h2, h3, q.go⟩
theorem call_list_ofN : CallR X (.type "list") (fun xs H Q => ∃ p ys, xs = [.ref p] ∧ (SqL X.K H p ys ∨ SqT X.K H p ys) ∧ New H (.lst ys) Q) :=
  fun pins s σ H xs us Q I r ⟨p, ys, h1, h2, q⟩ => call_list_of pins s σ H xs us Q I r ⟨p, ys, h1, h2, q.go⟩
end
/-! ### cuts: what stands between two statements, or behind a part, by a word of one's own -/
section
variable {X : Cx} {st : Stmt} {rest : List Stmt} {t u : TS} {e : Expr} {te : TE} {tt : TT}
def tCut (t u : TS) : TS := fun D σ H => ∃ M : L2.St → Hp → Prop, t { D with nx := M } σ H ∧ ∀ σ' H', M σ' H' → u D σ' H'
theorem cutS (h1 : PS X st t) (h2 : PSs X rest u) : PSs X (st :: rest) (tCut t u) := by
  constructor
  rintro pins s σ H D I ⟨M, h, k⟩
  refine wpAny_execs_cons (thn (h1.run pins s σ H _ I h) fun f s1 q => ?_)
  match f, q with
  | .next, ⟨σ', H', I', q⟩ => exact h2.run pins s1 σ' H' D I' (k _ _ q)
  | .ret v, q => exact q
  | .brk, q => exact q
  | .cont, q => exact q
def tMid (te : TE) : TE := fun σ H Q => ∃ M : VK, te σ H M ∧ ∀ v H', M v H' → Q v H'
theorem cutE (h : PE X e te) : PE X e (tMid te) := ⟨fun pins s σ H Q I ⟨M, h1, k⟩ =>
  thn (h.run pins s σ H M I h1) fun v s1 ⟨x, H1, I1, r1, q1⟩ => ⟨x, H1, I1, r1, k _ _ q1⟩⟩
def tMidT (tt : TT) : TT := fun σ H Q => ∃ M : Bool → Hp → Prop, tt σ H M ∧ ∀ b H', M b H' → Q b H'
theorem cutT (h : PT X e tt) : PT X e (tMidT tt) := ⟨fun pins s σ H Q I ⟨M, h1, k⟩ =>
  thn (h.run pins s σ H M I h1) fun b s1 ⟨H1, I1, q1⟩ => ⟨H1, I1, k _ _ q1⟩⟩
end
def lcL {K : PySem.W.Frag} {a : Addr} {xs : List V} {g : TG} {tt : TT} {te : TE} {vs : List Nat} {σ : L2.St} {H1 : Hp} {D : Addr} {Qd : Hp → Prop}
    (Pv : Nat → Hp → Prop) (hD : H1 D = none) (h0 : ∀ H', Same H1 H' → H' D = some (.lst []) → Pv 0 H') (hl : ∀ i H, i ≤ xs.length → Pv i H → SqL K H a xs)
    (hs : ∀ i x H, xs[i]? = some x → Pv i H → g x (wipe σ vs) H fun σ2 H2 => wipe σ2 vs = wipe σ vs ∧ tt σ2 H2 fun b H3 =>
      if b = true then te σ2 H3 fun y H4 => ∃ acc, H4 D = some (.lst acc) ∧ acc.length < sizeLine ∧ Pv (i + 1) (upd H4 D (.lst (acc ++ [y]))) else Pv (i + 1) H3)
    (hd : ∀ H, Pv xs.length H → Qd H) :=
  lc_list (K := K) (a := a) (xs := xs) (g := g) (tt := tt) (te := te) (vs := vs) (σ := σ) (H1 := H1) (D := D) (Qd := Qd) Pv (h0 _ (same_new hD) upd_same) hl hs hd
def lcT {K : PySem.W.Frag} {a : Addr} {xs : List V} {g : TG} {tt : TT} {te : TE} {vs : List Nat} {σ : L2.St} {H1 : Hp} {D : Addr} {Qd : Hp → Prop}
    (Pv : Nat → Hp → Prop) (hD : H1 D = none) (h0 : ∀ H', Same H1 H' → H' D = some (.lst []) → Pv 0 H') (hl : ∀ i H, i ≤ xs.length → Pv i H → SqT K H a xs)
    (hs : ∀ i x H, xs[i]? = some x → Pv i H → g x (wipe σ vs) H fun σ2 H2 => wipe σ2 vs = wipe σ vs ∧ tt σ2 H2 fun b H3 =>
      if b = true then te σ2 H3 fun y H4 => ∃ acc, H4 D = some (.lst acc) ∧ acc.length < sizeLine ∧ Pv (i + 1) (upd H4 D (.lst (acc ++ [y]))) else Pv (i + 1) H3)
    (hd : ∀ H, Pv xs.length H → Qd H) :=
  lc_tup (K := K) (a := a) (xs := xs) (g := g) (tt := tt) (te := te) (vs := vs) (σ := σ) (H1 := H1) (D := D) (Qd := Qd) Pv (h0 _ (same_new hD) upd_same) hl hs hd
/-- the heap without the deck -/
def hide (d l : Addr) (H : Hp) : Hp := fun b => if b = d ∨ b = l then none else H b
theorem hide_at {d l b : Addr} {H : Hp} {o : HO} (h : hide d l H b = some o) : b ≠ d ∧ b ≠ l ∧ H b = some o := by
  unfold hide at h
  split at h
  · cases h
  · rename_i n
    exact ⟨fun e => n (.inl e), fun e => n (.inr e), h⟩
theorem hide_ne {d l b : Addr} {H : Hp} (h1 : b ≠ d) (h2 : b ≠ l) : hide d l H b = H b := by
  unfold hide
  rw [if_neg]
  rintro (e | e)
  · exact h1 e
  · exact h2 e
/-- the deck stands: a list of the script's rest, its number, its count -/
structure Deck (H : Hp) (d l : Addr) : Prop where
  ne : d ≠ l
  ex : ∃ (ns : List Int) (s c : Int), H d = some (.lst [.ref l, .int s, .int c]) ∧ H l = some (.lst (ns.map V.int)) ∧ ns.length ≤ 63
/-- the deck still stands, and all else that stood stands -/
structure Step (d l : Addr) (H H' : Hp) : Prop where
  deck : Deck H' d l
  same : Same (hide d l H) (hide d l H')
section
variable {d l p a : Addr} {H H' H2 : Hp} {o : HO} {K : PySem.W.Frag} {xs : List V}
theorem Deck.nd (D : Deck H d l) (h : H p = none) : p ≠ d ∧ p ≠ l := by
  obtain ⟨ns, s, c, h1, h2, _⟩ := D.ex
  exact ⟨(ne_of_none h1 h).symm, (ne_of_none h2 h).symm⟩
theorem Step.refl (D : Deck H d l) : Step d l H H := ⟨D, .refl _⟩
theorem Step.trans (A : Step d l H H') (B : Step d l H' H2) : Step d l H H2 := ⟨B.deck, A.same.trans B.same⟩
theorem Same.hide (S : Same H H') : Same (Cl.hide d l H) (Cl.hide d l H') := fun b x e => by
  obtain ⟨e1, e2, e3⟩ := hide_at e
  rw [hide_ne e1 e2]
  exact S b x e3
theorem Step.of (D : Deck H d l) (S : Same H H') : Step d l H H' := by
  obtain ⟨ns, s, c, h1, h2, h3⟩ := D.ex
  exact ⟨⟨D.ne, ns, s, c, S _ _ h1, S _ _ h2, h3⟩, S.hide⟩
theorem Step.new (D : Deck H d l) (h : H p = none) : Step d l H (upd H p o) := Step.of D (same_new h)
/-- a new object ahead of a step is there behind it -/
theorem Step.at (S : Step d l H H') (h1 : p ≠ d) (h2 : p ≠ l) (h : H p = some o) : Keep (H' p) o := by
  have e := S.same p o (by rw [hide_ne h1 h2]; exact h)
  rw [hide_ne h1 h2] at e
  exact e
theorem Step.tupH (S : Step d l H H') (D : Deck H d l) (h : H p = some (.tup xs)) : H' p = some (.tup xs) := by
  obtain ⟨ns, s, c, h1, h2, h3⟩ := D.ex
  exact S.at (ne_of h h1 (by intro z; cases z)) (ne_of h h2 (by intro z; cases z)) h
end
theorem dropLast_map (ns : List Int) : (ns.map V.int).dropLast = ns.dropLast.map V.int := by
  rw [List.map_dropLast]

/-! ### promises of the deck's defs -/
def spDeck (K : PySem.W.Frag) : Sp := fun vs H Q _ => ∃ (a : Addr) (ns : List Int), vs = [.ref a] ∧ SqL K H a (ns.map V.int) ∧ ns.length ≤ 63 ∧
  ∀ d l H', Same H H' → Deck H' d l → Q (.ref d) H'
def spDraw : Sp := fun vs H Q _ => ∃ (d l : Addr) (m : Int), vs = [.ref d, .int m] ∧ 0 < m ∧ m < 2 ^ 64 ∧ Deck H d l ∧
  ∀ v H', 0 ≤ v → v < m → Step d l H H' → Q (.int v) H'
theorem mulc {a b : Int} (h : -(2 ^ 64) < a ∧ a < 2 ^ 64) : CMul a b := .inl h
theorem mulr {a b : Int} (h : -(2 ^ 64) < b ∧ b < 2 ^ 64) : CMul a b := .inr h
theorem modlt {a m : Int} (h : 0 < m) (h2 : m ≤ 2 ^ 64) : -(2 ^ 64) < a % m ∧ a % m < 2 ^ 64 := by
  have := Int.emod_nonneg a (show m ≠ 0 by omega)
  have := Int.emod_lt_of_pos a h
  omega
theorem shapedInts (ns : List Int) : SeqAt.shaped (.list (ns.map PyData.int)) = true := by
  have h1 : ∀ ns : List Int, PyData.canLayAll0 (ns.map PyData.int) = true := by
    intro ns
    induction ns with
    | nil => rfl
    | cons n r ih => simp [PyData.canLayAll0, PyData.canLay0, ih]
  have h2 : ∀ ns : List Int, PyData.depthAll (ns.map PyData.int) = 0 := by
    intro ns
    induction ns with
    | nil => rfl
    | cons n r ih => simp [PyData.depthAll, PyData.depth, ih]
  simp [SeqAt.shaped, PyData.canLay0, PyData.depth, h1, h2]
theorem dpInts {K : PySem.W.Frag} {H : Hp} : ∀ ns : List Int, DpAll K H (ns.map V.int) (ns.map PyData.int)
  | [] => .nil
  | n :: r => .cons (.int n) (dpInts r)
theorem eqvNil (ns : List Int) : PyData.eqv (.list (ns.map PyData.int)) (.list []) = ns.isEmpty := by
  cases ns <;> simp [PyData.eqv, PyData.eqvAll]

/-! ### data whose repr is short -/
structure Fine (d : PyData) : Prop where
  lv : d.leavesShort 200 = true
  sh : d.showable = true
  nd : d.hasDict = false
  dp : d.depth ≤ 60
  bk : d.bulk ≤ 80000
def okI (i : Int) : Prop := i.natAbs < 2 ^ 190
theorem okI.log {i : Int} (h : okI i) : i.natAbs.log2 < 190 := PySem.Flt.log2_lt_of (by decide) h
theorem okI.len {i : Int} (h : okI i) : (PyData.shown (.int i)).length ≤ 200 := by
  have e := int_text_length_le (k := 190) (by decide) h.log
  show (Str.ofString (toString i)).length ≤ 200
  rw [PySem.ofString_length]
  omega
theorem okI.of {i : Int} (h1 : -(2 ^ 189) < i) (h2 : i < 2 ^ 189) : okI i := by
  unfold okI
  omega
def rReprF (K : PySem.W.Frag) : List V → Hp → VK → Prop := fun xs H Q => ∃ v d, xs = [v] ∧ Dp K H v d ∧ Fine d ∧ Q (.str d.shown) H
theorem call_repr {X : Cx} (hg : X.A.guards = some []) (hu : X.A.units + 64 < cLine) : CallR X (.builtin "repr") (rReprF X.K) :=
  fun pins s σ H xs us Q I r ⟨v, d, h1, h2, f, q⟩ => call_reprD hg hu pins s σ H xs us Q I r ⟨v, d, h1, h2, f.sh, f.nd, f.dp, by
    have e := PyData.shown_le_bulk 200 (by decide) d f.lv
    have e2 := f.bk
    have e3 : sizeLine = 16777216 := by decide
    omega, q⟩
theorem fineInts2 {i j : Int} (h1 : okI i) (h2 : okI j) : Fine (.tuple [.int i, .int j]) := by
  have a1 := h1.len
  have a2 := h2.len
  have b1 : i.natAbs.log2 < 1920 := by have := h1.log; omega
  have b2 : j.natAbs.log2 < 1920 := by have := h2.log; omega
  constructor
  · simp [PyData.leavesShort, PyData.leavesShortAll, a1, a2]
  · simp [PyData.showable, PyData.showableAll, b1, b2]
  · rfl
  · simp [PyData.depth, PyData.depthAll]
  · simp [PyData.bulk, PyData.bulkAll]
theorem fineBool (b : Bool) : Fine (.bool b) := by constructor <;> first | rfl | (cases b <;> decide)
end Cl

namespace Cl
open PySem PySem.Spec PyProof.Rows L2
/-! ### the nearest whole number -/
def nr (n d : Int) : Int := (2 * n + d) / (2 * d)
theorem nr_law {n g : Int} (h : 0 < g) : nr n g = if 2 * n < (2 * (n / g) + 1) * g then n / g else n / g + 1 := by
  have e1 := Int.mul_ediv_add_emod n g
  have e2 := Int.emod_nonneg n (show g ≠ 0 by omega)
  have e3 := Int.emod_lt_of_pos n h
  generalize n / g = k at *
  generalize n % g = r at *
  subst e1
  unfold nr
  have c1 : (2 * k + 1) * g = 2 * (g * k) + g := by rw [Int.add_mul, Int.mul_assoc, Int.mul_comm k g]; omega
  have c2 : 2 * (g * k + r) + g = (2 * r + g) + (2 * g) * k := by rw [Int.mul_assoc 2 g k]; omega
  rw [c1, c2, Int.add_mul_ediv_left _ _ (show 2 * g ≠ 0 by omega)]
  split
  · rw [Int.ediv_eq_zero_of_lt (by omega) (by omega)]; omega
  · have c3 : 2 * r + g = (2 * r - g) + (2 * g) * 1 := by omega
    rw [c3, Int.add_mul_ediv_left _ _ (show 2 * g ≠ 0 by omega), Int.ediv_eq_zero_of_lt (by omega) (by omega)]; omega
theorem nr_move {n d g : Int} (h : 0 < g) : nr (n + d * g) g = nr n g + d := by
  unfold nr
  have c : 2 * (n + d * g) + g = (2 * n + g) + (2 * g) * d := by
    rw [Int.mul_add, Int.mul_assoc 2 g d, Int.mul_comm d g]; omega
  rw [c, Int.add_mul_ediv_left _ _ (show 2 * g ≠ 0 by omega)]
theorem nr_times {n g t : Int} (ht : 0 < t) : nr (n * t) (g * t) = nr n g := by
  unfold nr
  have c1 : 2 * (n * t) + g * t = (2 * n + g) * t := by rw [Int.add_mul, Int.mul_assoc]
  have c2 : 2 * (g * t) = (2 * g) * t := by rw [Int.mul_assoc]
  rw [c1, c2, Int.mul_ediv_mul_of_pos_left _ _ ht]
theorem nr_ok {n g B : Int} (h : 0 < g) (h1 : -B < n) (h2 : n < B) (hB : 0 < B) : -(B + 1) ≤ nr n g ∧ nr n g ≤ B + 1 := by
  unfold nr
  have hg : 0 < 2 * g := by omega
  constructor
  · refine Int.le_ediv_of_mul_le hg ?_
    have : B * 1 ≤ B * g := Int.mul_le_mul_of_nonneg_left (by omega) (by omega)
    have e : -(B + 1) * (2 * g) = -(2 * (B * g)) - 2 * g := by rw [Int.neg_mul, Int.add_mul, Int.mul_left_comm B 2 g]; omega
    rw [e]; omega
  · refine Int.ediv_le_of_le_mul hg ?_
    have : B * 1 ≤ B * g := Int.mul_le_mul_of_nonneg_left (by omega) (by omega)
    have e : (B + 1) * (2 * g) = 2 * (B * g) + 2 * g := by rw [Int.add_mul, Int.mul_left_comm B 2 g]; omega
    rw [e]; omega
def spNear : Sp := fun vs H Q _ => ∃ n d : Int, vs = [.int n, .int d] ∧ 0 < d ∧ d < 2 ^ 60 ∧ Q (.int (nr n d)) H
def spCorner (K : PySem.W.Frag) : Sp := fun vs H Q _ => ∃ (g : Int) (a : Addr) (x y : Int), vs = [.int g, .ref a] ∧ SqT K H a [.int x, .int y] ∧ 0 < g ∧ g < 2 ^ 60 ∧
  New H (.tup [.int (nr x g), .int (nr y g)]) Q

def spLaw (K : PySem.W.Frag) : Sp := fun vs H Q _ => ∃ (a : Addr) (ns : List Int), vs = [.ref a] ∧ SqL K H a (ns.map V.int) ∧ ns.length ≤ 63 ∧ ∀ H', Q (.bl true) H'
section
variable {X : Cx}
def CDivX (_ j : Int) : Prop := j ≠ 0 ∧ j.natAbs.log2 < 9000
theorem op_fdivX : OpR X (binaryOp .FloorDiv) (rI CDivX fun i j => .int (i.fdiv j)) :=
  opI fun i j _ _ _ _ _ hc q => floordiv_int hc.1 q (.inl (PyProof.noPylong_of_log2 hc.2))
end
/-! ### the greatest number that parts -/
def spGp : Sp := fun vs H Q _ => ∃ n m : Int, vs = [.int n, .int m] ∧ Q (.int (Int.gcd n m : Nat)) H
def gpar (n m d : Int) : Int := (Int.gcd (Int.gcd n m : Nat) d : Nat)
def spP (n m d : Int) : Int := if d < 0 then -gpar n m d else gpar n m d
def spSpotOf : Sp := fun vs H Q _ => ∃ n m d : Int, vs = [.int n, .int m, .int d] ∧ d ≠ 0 ∧ d.natAbs < 2 ^ 200 ∧
  New H (.tup [.int (n / spP n m d), .int (m / spP n m d), .int (d / spP n m d)]) Q
theorem gpar_dvd (n m d : Int) : gpar n m d ∣ n ∧ gpar n m d ∣ m ∧ gpar n m d ∣ d := by
  unfold gpar
  have h1 : (Int.gcd (Int.gcd n m : Nat) d : Int) ∣ (Int.gcd n m : Nat) := Int.gcd_dvd_left ..
  refine ⟨Int.dvd_trans h1 (Int.gcd_dvd_left ..), Int.dvd_trans h1 (Int.gcd_dvd_right ..), Int.gcd_dvd_right ..⟩
theorem gpar_pos {n m d : Int} (h : d ≠ 0) : 0 < gpar n m d := by
  unfold gpar
  have : 0 < Int.gcd (Int.gcd n m : Nat) d := Int.gcd_pos_of_ne_zero_right _ h
  omega
theorem gpar_le {n m d : Int} (h : d ≠ 0) : gpar n m d ≤ d.natAbs := by
  have := (gpar_dvd n m d).2.2
  have h2 : gpar n m d ∣ (d.natAbs : Int) := Int.dvd_natAbs.mpr this
  exact Int.le_of_dvd (by omega) h2
theorem spP_dvd (n m d : Int) : spP n m d ∣ n ∧ spP n m d ∣ m ∧ spP n m d ∣ d := by
  obtain ⟨h1, h2, h3⟩ := gpar_dvd n m d
  unfold spP
  split
  · exact ⟨Int.neg_dvd.mpr h1, Int.neg_dvd.mpr h2, Int.neg_dvd.mpr h3⟩
  · exact ⟨h1, h2, h3⟩
theorem spP_ne {n m d : Int} (h : d ≠ 0) : spP n m d ≠ 0 := by
  have := gpar_pos (n := n) (m := m) h
  unfold spP
  split <;> omega
/-- the spot of d above nought: some part that all three have, taken out -/
theorem spot_pos {n m d : Int} (h : 0 < d) : ∃ p : Int, 0 < p ∧ n = n / spP n m d * p ∧ m = m / spP n m d * p ∧ d = d / spP n m d * p ∧ 0 < d / spP n m d ∧ d / spP n m d ≤ d := by
  obtain ⟨h1, h2, h3⟩ := gpar_dvd n m d
  have h0 := gpar_pos (n := n) (m := m) (d := d) (by omega)
  have e : spP n m d = gpar n m d := if_neg (by omega)
  rw [e]
  have e3 := Int.ediv_mul_cancel h3
  refine ⟨gpar n m d, h0, (Int.ediv_mul_cancel h1).symm, (Int.ediv_mul_cancel h2).symm, e3.symm, ?_, Int.ediv_le_self _ (by omega)⟩
  exact Int.ediv_pos_of_pos_of_dvd h (by omega) h3
theorem nr_spot {n m d g : Int} (h : 0 < d) : nr (n / spP n m d) (d / spP n m d * g) = nr n (d * g) ∧ nr (m / spP n m d) (d / spP n m d * g) = nr m (d * g) := by
  obtain ⟨p, hp, e1, e2, e3, _⟩ := spot_pos (n := n) (m := m) h
  have c : d * g = d / spP n m d * g * p := by
    conv => lhs; rw [e3]
    rw [Int.mul_assoc, Int.mul_assoc, Int.mul_comm p g]
  have k1 := nr_times (n := n / spP n m d) (g := d / spP n m d * g) hp
  have k2 := nr_times (n := m / spP n m d) (g := d / spP n m d * g) hp
  rw [← e1, ← c] at k1
  rw [← e2, ← c] at k2
  exact ⟨k1.symm, k2.symm⟩
theorem nr_lies {n g : Int} (h : 0 < g) : (2 * nr n g - 1) * g ≤ 2 * n ∧ 2 * n < (2 * nr n g + 1) * g := by
  unfold nr
  have e1 := Int.mul_ediv_add_emod (2 * n + g) (2 * g)
  have e2 := Int.emod_nonneg (2 * n + g) (show 2 * g ≠ 0 by omega)
  have e3 := Int.emod_lt_of_pos (2 * n + g) (show 0 < 2 * g by omega)
  generalize (2 * n + g) / (2 * g) = k at *
  generalize (2 * n + g) % (2 * g) = r at *
  have c1 : (2 * k - 1) * g = 2 * g * k - g := by rw [Int.sub_mul, Int.mul_right_comm]; omega
  have c2 : (2 * k + 1) * g = 2 * g * k + g := by rw [Int.add_mul, Int.mul_right_comm]; omega
  omega
end Cl

namespace Cl
open PySem PySem.Spec PyProof.Rows L2
/-! ### kinds of things -/
def isI : V → Bool
  | .int _ => true
  | _ => false
def isB : V → Bool
  | .bl _ => true
  | _ => false
/-- a thing with the name of its class -/
inductive Kd (K : PySem.W.Frag) (H : Hp) : V → String → Prop where
  | non : Kd K H .non "NoneType"
  | bl (b : Bool) : Kd K H (.bl b) "bool"
  | int (i : Int) : Kd K H (.int i) "int"
  | str (x : Str) : Kd K H (.str x) "str"
  | lst {a : Addr} {xs : List V} (h : SqL K H a xs) : Kd K H (.ref a) "list"
  | tup {a : Addr} {xs : List V} (h : SqT K H a xs) : Kd K H (.ref a) "tuple"
  | dct {a : Addr} {kvs : List (Key × V)} (h : H a = some (.dK kvs)) : Kd K H (.ref a) "dict"
section
variable {K : PySem.W.Frag} {H : Hp} {v : V} {T : String}
theorem Kd.ty (h : Kd K H v T) : TyX K H v (.type T) := by
  cases h with
  | non => exact .base .non
  | bl b => exact .base (.bl b)
  | int i => exact .base (.int i)
  | str x => exact .base (.str x)
  | lst h =>
    rcases h with (h | ⟨o, h⟩) | ⟨o, its, n, h1, h2, _⟩
    · exact .base (.lst h)
    · exact .base (.frz h)
    · exact .kList h1 h2
  | tup h =>
    rcases h with (h | ⟨o, h⟩) | ⟨o, its, n, h1, h2, _⟩
    · exact .base (.tup h)
    · exact .fTuple h
    · exact .kTuple h1 h2
  | dct h => exact .base (.dK h)
theorem Kd.int? (h : Kd K H v T) : kitB T "int" = some (isI v || isB v) := by
  cases h <;> first | (show kitB _ _ = some true; decide +kernel) | (show kitB _ _ = some false; decide +kernel)
theorem Kd.bool? (h : Kd K H v T) : kitB T "bool" = some (isB v) := by
  cases h <;> first | (show kitB _ _ = some true; decide +kernel) | (show kitB _ _ = some false; decide +kernel)
theorem Kd.tuple? (h : Kd K H v T) : kitB T "tuple" = some (decide (T = "tuple")) := by
  cases h <;> first | (show kitB _ _ = some true; decide +kernel) | (show kitB _ _ = some false; decide +kernel)
theorem Kd.str? (h : Kd K H v T) : kitB T "str" = some (decide (T = "str")) := by
  cases h <;> first | (show kitB _ _ = some true; decide +kernel) | (show kitB _ _ = some false; decide +kernel)
end
theorem seT {K : PySem.W.Frag} {H H' : Hp} {a : Addr} {xs : List V} (e : Same H H') (h : SqT K H a xs) : SqT K H' a xs := by
  rcases h with (h | ⟨o, h⟩) | h
  · exact .inl (.inl (e _ _ h))
  · exact .inl (.inr ⟨o, e _ _ h⟩)
  · exact .inr h
/-- isinstance(thing, a built-in class) -/
theorem isi {K : PySem.W.Frag} {H : Hp} {v : V} {T c : String} {b : Bool} {Q : VK} (h : Kd K H v T) (e : kitB T c = some b) (q : Q (.bl b) H) :
    rIsi K [v, .ty c] H Q := ⟨v, .ty c, .type T, .type c, b, rfl, .ty c, h.ty, kit_ty e, q⟩
def spWhole (K : PySem.W.Frag) : Sp := fun vs H Q _ => ∃ v T, vs = [v] ∧ Kd K H v T ∧ Q (.bl (isI v)) H

/-! ### lists of draws -/
def Acc (d l pD : Addr) (H0 : Hp) (i : Nat) (P : Int → Prop) (H' : Hp) : Prop :=
  ∃ xs : List Int, Step d l H0 H' ∧ H' pD = some (.lst (xs.map V.int)) ∧ xs.length = i ∧ ∀ x ∈ xs, P x
section
variable {d l pD : Addr} {H0 H H4 : Hp} {i : Nat} {P : Int → Prop} {y : Int}
theorem Step.updN (S : Step d l H0 H4) (h1 : pD ≠ d) (h2 : pD ≠ l) (n : H0 pD = none) {o : HO} : Step d l H0 (upd H4 pD o) := by
  obtain ⟨ns, s, c, e1, e2, e3⟩ := S.deck.ex
  refine ⟨⟨S.deck.ne, ns, s, c, by rw [upd_ne h1.symm]; exact e1, by rw [upd_ne h2.symm]; exact e2, e3⟩, ?_⟩
  refine fun b x e => ?_
  obtain ⟨n1, n2, n3⟩ := hide_at e
  have e5 := S.same b x e
  rw [hide_ne n1 n2] at e5 ⊢
  rw [upd_ne (ne_of_none n3 n)]
  exact e5
theorem Acc.start (D : Deck H0 d l) (S : Same H0 H) (e : H pD = some (.lst [])) : Acc d l pD H0 0 P H :=
  ⟨[], Step.of D S, e, rfl, fun x h => nomatch h⟩
theorem Acc.turn (A : Acc d l pD H0 i P H) (S : Step d l H H4) (D : Deck H0 d l) (n : H0 pD = none) (hi : i < 1000) (h : P y) :
    ∃ acc, H4 pD = some (.lst acc) ∧ acc.length < sizeLine ∧ Acc d l pD H0 (i + 1) P (upd H4 pD (.lst (acc ++ [.int y]))) := by
  obtain ⟨xs, S0, e, l1, a⟩ := A
  obtain ⟨h1, h2⟩ := D.nd n
  refine ⟨_, S.at h1 h2 e, by rw [List.length_map, l1]; exact small1000 (by omega), xs ++ [y], (S0.trans S).updN h1 h2 n, ?_, by rw [List.length_append, l1]; rfl, fun x hx => ?_⟩
  · rw [upd_same, List.map_append]; rfl
  · rcases List.mem_append.mp hx with z | z
    · exact a x z
    · rw [List.mem_singleton.mp z]; exact h
end
def lcR {lo : Int} {n : Nat} {g : TG} {tt : TT} {te : TE} {vs : List Nat} {σ : L2.St} {H1 : Hp} {D : Addr} {Qd : Hp → Prop}
    (Pv : Nat → Hp → Prop) (hD : H1 D = none) (h0 : ∀ H', Same H1 H' → H' D = some (.lst []) → Pv 0 H')
    (hs : ∀ i H, i < n → Pv i H → g (.int (lo + i)) (wipe σ vs) H fun σ2 H2 => wipe σ2 vs = wipe σ vs ∧ tt σ2 H2 fun b H3 =>
      if b = true then te σ2 H3 fun y H4 => ∃ acc, H4 D = some (.lst acc) ∧ acc.length < sizeLine ∧ Pv (i + 1) (upd H4 D (.lst (acc ++ [y]))) else Pv (i + 1) H3)
    (hd : ∀ H, Pv n H → Qd H) :=
  lc_range (lo := lo) (n := n) (g := g) (tt := tt) (te := te) (vs := vs) (σ := σ) (H1 := H1) (D := D) (Qd := Qd) Pv (h0 _ (same_new hD) upd_same) hs hd
theorem two {xs : List Int} (h : xs.length = 2) : ∃ x y, xs = [x, y] := by
  match xs, h with
  | [x, y], _ => exact ⟨x, y, rfl⟩
end Cl

namespace Cl
open PySem PySem.Spec PyProof.Rows L2
/-! ### a test of a thing's kind by a small def, asked quietly -/
/-- the thing u stands in the heap with its class's name -/
def KQ (K : PySem.W.Frag) (h : Heap) (u : Value) (T : String) : Prop := ∃ P : Heap → Prop, PySem.W.KitX K u (.type T) P ∧ P h ∧ (∀ h' : Heap, (∀ a o, u = .ref a → h.get? a = some o → h'.get? a = some o) → P h') ∧
  u ≠ .builtin "__main__.__loader__#opaque" ∧ ∀ a, u = .ref a → ∃ o, h.get? a = some o ∧ o.cls = .type T
theorem kq_at {K : PySem.W.Frag} {h : Heap} {a : Addr} {T : String} (Z : PySem.W.KitX K (.ref a) (.type T) (PySem.W.KitAt a T)) (p : ∃ o, h.get? a = some o ∧ o.cls = .type T) : KQ K h (.ref a) T :=
  ⟨_, Z, p, fun h' k => let ⟨o, e, c⟩ := p; ⟨o, k a o rfl e, c⟩, (fun z => nomatch z), fun b e => by cases e; exact p⟩
theorem Kd.kq {X : Cx} {pins : List (Addr × Obj)} {σ : L2.St} {H : Hp} {s : Shared} {v : V} {T : String} {u : Value} (I : Inv X pins σ H s) (h : Kd X.K H v T) (r : RelV v u) : KQ X.K s.heap u T := by
  cases h with
  | non => cases (show u = Value.none from r); exact ⟨_, PySem.W.kitx_none, trivial, fun _ _ => trivial, (fun z => nomatch z), fun a z => nomatch z⟩
  | bl b => cases (show u = Value.bool b from r); exact ⟨_, PySem.W.kitx_bool, trivial, fun _ _ => trivial, (fun z => nomatch z), fun a z => nomatch z⟩
  | int i => obtain ⟨t, q⟩ := (show ∃ t, u = Value.int i t from r); cases q; exact ⟨_, PySem.W.kitx_int, trivial, fun _ _ => trivial, (fun z => nomatch z), fun a z => nomatch z⟩
  | str x => obtain ⟨t, q⟩ := (show ∃ t, u = Value.str x t from r); cases q; exact ⟨_, PySem.W.kitx_str, trivial, fun _ _ => trivial, (fun z => nomatch z), fun a z => nomatch z⟩
  | @lst a xs h =>
    cases (show u = Value.ref a from r)
    obtain ⟨its, rv, ht, hz⟩ := I.list h
    exact kq_at PySem.W.kitx_list ht.isList.typeIs
  | @tup a xs h =>
    cases (show u = Value.ref a from r)
    obtain ⟨its, rv, ht, hz⟩ := I.tuple h
    exact kq_at PySem.W.kitx_tuple ht.typeIs
  | @dct a kvs ea =>
    cases (show u = Value.ref a from r)
    obtain ⟨_, _, vs, _, o, es, ep, h1, h2, _⟩ := (show ObjOk X.prog X.w H s.heap a (.dK kvs) from I.hok a _ ea)
    exact kq_at PySem.W.kitx_dict ⟨o, h1, h2.1⟩
theorem KQ.keeps {K : PySem.W.Frag} {h h' : Heap} {u : Value} {T : String} (q : KQ K h u T) (k : ∀ a o, u = .ref a → h.get? a = some o → h'.get? a = some o) : KQ K h' u T := by
  obtain ⟨P, Z, p, m, n, c⟩ := q
  refine ⟨P, Z, m h' k, fun h'' k2 => m h'' fun a o e g => k2 a o e (k a o e g), n, fun a e => ?_⟩
  obtain ⟨o, g, w⟩ := c a e
  exact ⟨o, k a o e g, w⟩
section
variable {P : Program} {w : World} {K : PySem.W.Frag} {mg : Str → Option Value}
/-- the modules' names stand in this heap -/
def Stands (K : PySem.W.Frag) (mg : Str → Option Value) (h : Heap) : Prop := K.In h ∧ h.Ns mainGlobals mg ∧ (∃ mb, h.Ns builtinsNs mb ∧ ∀ x : Str, x ≠ "__name__" → mb x = bootBuiltins x) ∧ h.NoLimit
theorem Stands.keeps {h h' : Heap} (s : Stands K mg h) (k : ∀ b o, h.get? b = some o → h'.get? b = some o) : Stands K mg h' := by
  obtain ⟨a, b, ⟨mb, c, d⟩, e⟩ := s
  exact ⟨fun x o z => k _ _ (a x o z), b.keeps k, ⟨mb, c.keeps k, d⟩, e.keeps k⟩
/-- f(u): a test of u's class, nothing changed -/
structure QW (P : Program) (w : World) (K : PySem.W.Frag) (mg : Str → Option Value) (f : Addr) : Prop where
  run : ∀ (A : Around) (s : Shared) (u : Value) (T : String) (b1 b2 : Bool), A.depth < recursionLimit → Stands K mg s.heap → KQ K s.heap u T → kitB T "int" = some b1 → kitB T "bool" = some b2 →
    codeAny (model P w) A (.call (.ref f) ⟨[u], []⟩) (fun r s' => r = .ok (.ret (.bool (b1 && !b2))) ∧ Keeps s s') s
theorem keeps_trans {s s1 s2 : Shared} (a : Keeps s s1) (b : Keeps s1 s2) : Keeps s s2 := by
  obtain ⟨h, tk, rfl, k⟩ := a
  obtain ⟨h2, tk2, rfl, k2⟩ := b
  exact ⟨h2, tk2, rfl, fun b o e => k2 b o (k b o e)⟩
/-- isinstance(name, T) in an env of a function -/
theorem quiet_isi {A : Around} {E : Value → Shared → Prop} {env : Env} {s : Shared} {x c : Str} {m : Str → Option Value} {u : Value} {T tc : String} {b : Bool} {Q : Value → Shared → Prop} {p1 p2 p3 p4 : Pos}
    (hk : env.scope.kind = .function) (hx : env.kindOf x = some .local) (hi : env.kindOf "isinstance" = some .globalImplicit) (hc : env.kindOf c = some .globalImplicit) (hg : env.globals = mainGlobals) (hb : env.builtins = builtinsNs)
    (St : Stands K mg s.heap) (mi : mg "isinstance" = none) (mc : mg c = none) (bc : bootBuiltins c = some (.type tc)) (hn : s.heap.Ns env.locals m) (hm : m x = some u) (q : KQ K s.heap u T) (e : kitB T tc = some b)
    (h : ∀ tk, Q (.bool b) { s with toks := tk })
    (hd : (x == ("__debug__" : Str)) = false := by decide) (hdc : (c == ("__debug__" : Str)) = false := by decide) (hcn : c ≠ "__name__" := by decide)
    (he : starEach [.Name x p2, .Name c p3] env = (false, eval (.Name x p2) env) :: starEach [.Name c p3] env := by rfl) (he2 : starEach [.Name c p3] env = [(false, eval (.Name c p3) env)] := by rfl) :
    wpAny (model P w) A (eval (.Call (.Name "isinstance" p1) [.Name x p2, .Name c p3] [] p4) env) Q E s := by
  obtain ⟨inK, ns, ⟨mb, nb, hmb⟩, lim⟩ := St
  have glb : ∀ {y : Str} {v : Value} {p : Pos} {R : Value → Shared → Prop}, env.kindOf y = some .globalImplicit → mg y = none → bootBuiltins y = some v → y ≠ "__name__" → (y == ("__debug__" : Str)) = false → R v s → wpAny (model P w) A (eval (.Name y p) env) R E s :=
    fun {y v p R} k1 k2 k3 k4 k5 r => Calls.Name_function_global hk k1 (Calls.loadGlobal_builtin (by rw [hg]; exact ns) k2 (by rw [hb]; exact nb) ((hmb y k4).trans k3) r) k5
  refine wpAny_Call_Name_kw (glb hi mi PyProof.Rows.boot_isinstance (by decide) (by decide) ?_)
  refine PyProof.Rows.callWith_builtin1 ?_ he (by rw [he2]; rfl)
  rw [he, he2]
  refine Calls.spliced_cons (wpAny_Name (wpAny_loadName_local hk hx hn hm ?_) hd)
  refine Calls.spliced_cons (glb hc mc bc hcn hdc ?_)
  refine Calls.spliced_nil ?_
  obtain ⟨Pz, Z, pz, _, nl, _⟩ := q
  exact PySem.W.kia_one Z inK pz (kit_ty e) nl h
end
end Cl
namespace Cl
open PySem PySem.Spec PyProof.Rows L2
/-! ### def is_whole(thing): return isinstance(thing, int) and not isinstance(thing, bool) -/
section
variable {P : Program} {w : World} {K : PySem.W.Frag} {mg : Str → Option Value}
theorem qw_of {x qual : Str} {st : Stmt} {f : Addr} {fd : FuncData} {p1 p2 p3 p4 p5 p6 p7 p8 p9 p10 p11 : Pos} {y : Str} {k : Nat}
    (F : Fun K x qual st f fd) (S : FnScope [y] [y] (defScope st)) (hloc : (defScope st).names.lookup y = some .local)
    (hi : (defScope st).names.lookup ("isinstance" : Str) = some .globalImplicit) (hc : (defScope st).names.lookup ("int" : Str) = some .globalImplicit) (hb : (defScope st).names.lookup ("bool" : Str) = some .globalImplicit)
    (mi : mg "isinstance" = none) (mc : mg "int" = none) (mb : mg "bool" = none)
    (hbody : defBody st = [.Return (some (.BoolOp .And [.Call (.Name "isinstance" p1) [.Name y p2, .Name "int" p3] [] p4, .UnaryOp .Not (.Call (.Name "isinstance" p5) [.Name y p6, .Name "bool" p7] [] p8) p9] p10)) p11])
    (hbind : Binds K fd [y] []) (hyd : (y == ("__debug__" : Str)) = false := by decide) : QW P w K mg f := by
  refine ⟨fun A s u T b1 b2 hdep St q e1 e2 => ?_⟩
  have hb0 := hbind s [u] St.1 rfl
  obtain ⟨oc, od, kV, doc, pm, an, cdv, ct, osl, rfl, lk, hcd⟩ := F.ex
  obtain ⟨inK, ns, nb, lim⟩ := id St
  refine codeAny_call_function hdep (inK _ _ lk) rfl S.co S.gen rfl (PySem.W.codeRec_of inK hcd) (hb0 _ _ _ _ ?_)
  have kinds : ∀ z ∈ [y].zip ([u] ++ []), (defScope st).names.lookup z.1 = some .local ∨
      ((defScope st).names.lookup z.1 = some .cell ∧ ((cellsFrom (s.heap.objs.size + 1) (defScope st).names []).lookup z.1).isSome = true) := by
    intro z hz
    simp only [List.append_nil, List.zip_cons_cons, List.zip_nil_right, List.mem_singleton] at hz
    subst hz
    exact .inl hloc
  refine wpAny_newFunctionEnv_cells S.kind kinds fun env he s1 z => ?_
  subst he
  have k1 := z.toInCall.keep
  have St1 : Stands K mg s1.heap := St.keeps k1
  have q1' : KQ K s1.heap u T := q.keeps fun a o _ e => k1 a o e
  have ks1 : Keeps s s1 := z.done
  refine ⟨St1.2.2.2, codeAny_func ?_⟩
  show wpAny _ _ (execs (defBody st) _) _ _ s1
  rw [hbody]
  have hm : (bindL (newEnv (defScope st) s.heap.objs.size mainGlobals (cellsFrom (s.heap.objs.size + 1) (defScope st).names []) (qual ++ ".<locals>.") (some f) cdv none builtinsNs).kindOf ([y].zip ([u] ++ [])) fun _ => none) y = some u := by
    show (bindL (fun n => (defScope st).names.lookup n) [(y, u)] fun _ => none) y = some u
    simp [bindL, hloc]
  have isi : ∀ {E' : Value → Shared → Prop} {A' : Around} {c : Str} {tc : String} {b : Bool} {q1 q2 q3 q4 : Pos} {s2 : Shared} {Q2 : Value → Shared → Prop}, Keeps s1 s2 → (defScope st).names.lookup c = some .globalImplicit → mg c = none → bootBuiltins c = some (.type tc) → kitB T tc = some b → (c == ("__debug__" : Str)) = false → c ≠ "__name__" →
      (∀ tk, Q2 (.bool b) { s2 with toks := tk }) → wpAny (model P w) A' (eval (.Call (.Name "isinstance" q1) [.Name y q2, .Name c q3] [] q4) (newEnv (defScope st) s.heap.objs.size mainGlobals (cellsFrom (s.heap.objs.size + 1) (defScope st).names []) (qual ++ ".<locals>.") (some f) cdv none builtinsNs)) Q2 E' s2 := by
    intro E' A' c tc b q1 q2 q3 q4 s2 Q2 ks hcc hmc hbc he hd hn2 h
    obtain ⟨h2, tk2, rfl, k2⟩ := ks
    exact quiet_isi (K := K) (mg := mg) (T := T) S.kind hloc hi hcc rfl rfl (St1.keeps k2) mi hmc hbc (z.toInCall.ns.keeps k2) hm (q1'.keeps fun a o _ e => k2 a o e) he h hyd hd hn2 rfl rfl
  refine wpAny_execs_cons (wpAny_Return_some ?_)
  refine BoolOp_and (isi (GxR.keeps_refl _) hc mc PyProof.Rows.boot_int e1 (by decide) (by decide) fun tk => wpAny_truthy_bool ?_)
  cases b1 with
  | false => exact ⟨rfl, keeps_trans ks1 (GxR.keeps_tok _ _)⟩
  | true =>
    refine BoolOp_one (UnaryOp_ (isi (GxR.keeps_tok _ _) hb mb PyProof.Rows.boot_bool e2 (by decide) (by decide) fun tk2 => not_of (wpAny_truthy_bool ?_)))
    exact ⟨rfl, keeps_trans ks1 (GxR.keeps_tok _ _)⟩
end
end Cl

namespace Cl
open PySem PySem.Spec PyProof.Rows L2
open GxR (TabB TabG Tabbed GenS inv_tab sh_eta)
/-! ### all(test for x in t), t a tuple, the test asked quietly -/
def EltT (P : Program) (w : World) (K : PySem.W.Frag) (mg : Str → Option Value) (scope : Scope) (x : Str) (elt : Expr) (D : Nat) (Cp : List (Str × Addr) → Heap → Prop) (ok : Heap → Value → Bool → Prop) : Prop :=
  ∀ (cenv : Env) (A' : Around) (E' : Value → Shared → Prop) (u : Value) (b : Bool) (s₂ : Shared) (m₂ : Str → Option Value), A'.handled = none → A'.depth ≤ D → cenv.scope = scope → cenv.globals = mainGlobals → cenv.builtins = builtinsNs →
    Stands K mg s₂.heap → Cp cenv.cells s₂.heap → s₂.heap.Ns cenv.locals m₂ → m₂ x = some u → ok s₂.heap u b →
    wpAny (model P w) A' (eval elt cenv) (fun y s₃ => y = .bool b ∧ Keeps s₂ s₃) E' s₂
theorem Same.tabbed {H H' : Hp} {P : Addr} (h : TabG H P) (t : Tabbed P H H') : Same H H' := fun b o e => by
  by_cases hb : b = P
  · subst hb
    obtain ⟨ps, e1, _⟩ := h
    rw [e1] at e
    cases e
    obtain ⟨ps', e2, t2⟩ := t.1
    exact fun _ => ⟨ps', e2, t2⟩
  · rw [t.2 b hb]
    exact .of e
theorem Same.tab {H H' : Hp} {P : Addr} (s : Same H H') (h : TabG H P) : TabG H' P := by
  obtain ⟨ps, e, t⟩ := h
  obtain ⟨ps', e', t'⟩ := s P _ e t
  exact ⟨ps', e', t'⟩
def tAllT (K : PySem.W.Frag) (P : Addr) (cap : L2.St → Hp → Prop) (okV : Hp → V → Bool → Prop) (te : TE) : TE := fun σ H Q => te σ H fun v H1 => ∃ (a : Addr) (xs : List V) (bs : List Bool), v = .ref a ∧ SqT K H1 a xs ∧ bs.length = xs.length ∧
  (∀ (i : Nat) x b, xs[i]? = some x → bs[i]? = some b → okV H1 x b) ∧ cap σ H1 ∧ TabG H1 P ∧ ∀ H2, Same H1 H2 → TabG H2 P → Q (.bl (bs.all id)) H2
theorem all_range (bs : List Bool) : (List.range bs.length).all (fun j => bs.getD j false) = bs.all id := by
  rw [Bool.eq_iff_iff, List.all_eq_true, List.all_eq_true]
  constructor
  · intro h b hb
    obtain ⟨j, hj, e⟩ := List.getElem_of_mem hb
    have q := h j (List.mem_range.mpr hj)
    rw [List.getD_eq_getElem?_getD, List.getElem?_eq_getElem hj, e] at q
    exact q
  · intro h j hj
    have hj' := List.mem_range.mp hj
    rw [List.getD_eq_getElem?_getD, List.getElem?_eq_getElem hj']
    exact h _ (List.getElem_mem hj')
section
variable {X : Cx}
theorem pe_allT {c P : Addr} {elt iter : Expr} {x : Str} {px p pos gpos : Pos} {scope : Scope} {te : TE} {k : Nat} {Cp : List (Str × Addr) → Heap → Prop} {ok : Heap → Value → Bool → Prop} {cap : L2.St → Hp → Prop} {okV : Hp → V → Bool → Prop}
    (hr : Room k X.A) (hg : Gl X "all") (hm : X.mg "all" = none) (TB : TabB X.base X.mg c P) (hcode : X.env.code = .ref c) (S : GenS X.env scope x) (hi : PE X iter te)
    (hel : EltT X.prog X.w X.K X.mg scope x elt (X.A.depth + 1) Cp ok)
    (okk : ∀ h h' u b, ok h u b → (∀ a o, u = .ref a → h.get? a = some o → h'.get? a = some o) → ok h' u b) (okr : ∀ h u b a, ok h u b → u = .ref a → ∃ o, h.get? a = some o ∧ o.cls ≠ .none)
    (okI : ∀ {pins : List (Addr × Obj)} {σ : L2.St} {H : Hp} {s : Shared} {v : V} {u : Value} {b : Bool}, Inv X pins σ H s → RelV v u → okV H v b → ok s.heap u b)
    (cpI : ∀ {pins : List (Addr × Obj)} {σ : L2.St} {H : Hp} {s : Shared}, Inv X pins σ H s → cap σ H → Cp (cloFrom X.env.cells scope.names []) s.heap)
    (cpk : ∀ h h', (∀ b o, o.cls ≠ .none → h.get? b = some o → h'.get? b = some o) → Cp (cloFrom X.env.cells scope.names []) h → Cp (cloFrom X.env.cells scope.names []) h')
    (teσ : ∀ {pins : List (Addr × Obj)} {σ : L2.St} {H : Hp} {s : Shared}, True)
    (hs : ∀ v, genFold iter X.env v = pure v)
    (he : starEach [.GeneratorExp elt [⟨.Name x px, iter, [], 0⟩] scope gpos] X.env = (false, eval (.GeneratorExp elt [⟨.Name x px, iter, [], 0⟩] scope gpos) X.env) :: starEach [] X.env := by rfl) :
    PE X (.Call (.Name "all" p) [.GeneratorExp elt [⟨.Name x px, iter, [], 0⟩] scope gpos] [] pos) (tAllT X.K P cap okV te) := by
  refine ⟨fun pins s σ H Q I h => ?_⟩
  refine wpAny_Call_Name_kw (ld_blt I hg hm PyProof.Rows.boot_all ?_)
  refine PyProof.Rows.callWith_builtin1 ?_ he (by rfl)
  rw [he]
  show wpAny _ _ (spliced ((false, eval (.GeneratorExp elt [⟨.Name x px, iter, [], 0⟩] scope gpos) X.env) :: backTo pos (starEach [] X.env))) _ _ s
  refine Calls.spliced_cons ?_
  refine wpAny_GeneratorExp_walksQD hr.hd S.co (closure_ok S.free) S.cell S.dot S.loc S.kind (by have := hr.dp; omega) ?_ hs
  refine thn (hi.run pins s σ H _ I h) fun xv s1 ⟨v, H1, I1, r1, q1⟩ => ?_
  obtain ⟨a, xs, bs, rfl, hS, lbs, hok, hcap, hT, q⟩ := q1
  cases r1
  obtain ⟨ps, hP, ht⟩ := id hT
  obtain ⟨its, rv, tup, hz⟩ := I1.tuple hS
  have lx := rv.length
  refine wpAny_pyIter_tuple tup ?_
  have hPs : s1.heap.get? P = some { cls := .none, data := .fields ps } := I1.hok P _ hP
  have hPlt : P < s1.heap.objs.size := Heap.lt_size hPs
  have halt : a < s1.heap.objs.size := by obtain ⟨o, e, _⟩ := id tup; exact Heap.lt_size e
  have haP : a ≠ P := fun e => by
    obtain ⟨o, e1, e2, _⟩ := id tup
    rw [e, hPs] at e1
    cases e1
    cases e2
  generalize hito : ({ cls := .type "tuple_iterator", data := .fields #[.ref a, .int 0 0] } : Obj) = ito
  have hP2 : (s1.heap.push ito).get? P = some { cls := .none, data := .fields ps } := Heap.get?_push_of_some _ hPs
  have cd : PySem.W.CodeHd (s1.heap.push ito) c P := TB.code.keeps fun b u e => Heap.get?_push_of_some _ (I1.bk b u e)
  have lim2 : (s1.heap.push ito).NoLimit := I1.nolimit.push ito
  have sz2 : (s1.heap.push ito).objs.size = s1.heap.objs.size + 1 := Heap.size_push ..
  have cont : ∀ (code : Value) (h3 : Heap) (tk : Nat) (ps' : Array Value), Heap.ExtBut P (s1.heap.push ito) h3 → (s1.heap.push ito).objs.size ≤ h3.objs.size → h3.get? P = some { cls := .none, data := .fields ps' } → (∃ more, ps' = ps ++ more) → TriplesOk ps'.toList →
      wpAny (model X.prog X.w) X.A (builtinsFor X.env.globals X.env.builtins) (fun bi s₄ =>
        ∃ Ia fp wr n₀ Pf St₀ pz F, Value.ref s1.heap.objs.size = .ref Ia ∧ (∀ A' : Around, A'.handled = none → Walks X.prog X.w A' Ia fp wr n₀ Pf St₀) ∧ St₀ 0 s₄.heap ∧ (∀ b ∈ fp, b < s₄.heap.objs.size) ∧ s₄.heap.NoLimit ∧ cStatics ∉ wr ∧
          (∀ href : Heap, (∀ b o, s₄.heap.get? b = some o → href.get? b = some o) →
            QuietGenD X.prog X.w (genEnv scope (cloFrom X.env.cells scope.names []) s₄.heap.objs.size code bi X.env) x [] elt (List.range s₄.heap.objs.size) wr Pf pz F href (X.A.depth + 1) (X.A.units + 8)) ∧
          (∀ a h₅ tk gs, gs.bare = true → s₄.heap.objs.size < a → h₅.objs.size = a + 1 → (∀ b o, s₄.heap.get? b = some o → h₅.get? b = some o) →
            WalksS X.prog X.w X.A.in4 a (a :: s₄.heap.objs.size :: List.range s₄.heap.objs.size) (s₄.heap.objs.size :: wr) (GenOnlyQ s₄.gens.size) (passing pz n₀ 0).length
              (fun j y => ∃ i, (passing pz n₀ 0)[j]? = some i ∧ F i y) (GenAt X.prog X.w X.A.in4 a s₄.gens.size s₄.heap.objs.size (List.range s₄.heap.objs.size) wr pz n₀ F) →
            GenAt X.prog X.w X.A.in4 a s₄.gens.size s₄.heap.objs.size (List.range s₄.heap.objs.size) wr pz n₀ F 0 { s₄ with gens := s₄.gens.push gs, toks := tk, heap := h₅ } →
            wpAny (model X.prog X.w) X.A (spliced (backTo pos (starEach [] X.env))) (fun vs s2 => wpAny (model X.prog X.w) X.A (call (.builtin "all") (.ref a :: vs)) (EP X pins σ Q) X.xe s2) X.xe { s₄ with gens := s₄.gens.push gs, toks := tk, heap := h₅ })) X.xe { s1 with heap := h3, toks := tk } := by
    intro code h3 tk ps' hx hsz hP3 hmore ht3
    obtain ⟨bm, ob, e1, e2, e3, e4, e5, e6, e7, e8⟩ := TB.bm
    have keep3 : ∀ b u, b ≠ P → s1.heap.get? b = some u → h3.get? b = some u := fun b u hb e => hx b u hb (Heap.get?_push_of_some _ e)
    have hcP : cStatics ≠ P := fun e => by
      obtain ⟨_, hns, _⟩ := I1.nolimit
      obtain ⟨o', es, ep, ho, hd, _⟩ := hns
      rw [e, hPs] at ho
      cases ho
      cases hd
    have hcl : cStatics < s1.heap.objs.size := let ⟨_, hns, _⟩ := I1.nolimit; hns.lt
    have bP : ∀ b o, X.base.get? b = some o → b ≠ P := fun b o e z => by
      have := (I1.bs b o e).2
      rw [z, hP] at this
      cases this
    have stB : Stands X.K X.mg X.base := ⟨I1.mod.kin, I1.mod.glob, I1.mod.blt, I1.mod.nolimit⟩
    refine wpAny_builtinsFor (m := X.mg) (by rw [I1.ok.glob]; exact ((I1.mod.glob.keeps I1.bk).push ito).extBut hx TB.gP) e1 e2 (keep3 _ _ e4 (I1.bk _ _ e5)) e6 e7 e8 ?_
    refine ⟨s1.heap.objs.size, [s1.heap.objs.size, a], [s1.heap.objs.size], its.toArray.size, fun i v => its.toArray[i]? = some v, (fun i h => h.IsTupleIter s1.heap.objs.size a i ∧ h.IsTuple a its.toArray), (fun _ => true), (fun i y => i < its.toArray.size ∧ y = .bool (bs.getD i false)), rfl,
      fun A' hA => Walks.tuple hA _ _ (Nat.ne_of_lt halt) _, ⟨?_, ?_⟩, ?_, lim2.extBut hx hcP, ?_, ?_, ?_⟩
    · refine ⟨ito, hx _ _ (fun z => Nat.ne_of_lt hPlt z.symm) (Heap.get?_push_size _ (by rw [← hito]; rfl)), by rw [← hito], by rw [← hito]; rfl⟩
    · obtain ⟨o, g1, g2, g3⟩ := id tup
      exact ⟨o, keep3 a o haP g1, g2, g3⟩
    · intro b hb
      show b < h3.objs.size
      simp only [List.mem_cons, List.not_mem_nil, or_false] at hb
      rcases hb with z | z
      · rw [z]; exact Nat.lt_of_lt_of_le (by rw [sz2]; exact Nat.lt_succ_self _) hsz
      · rw [z]; exact Nat.lt_of_lt_of_le halt (Nat.le_trans (by rw [sz2]; exact Nat.le_succ _) hsz)
    · intro z
      rw [List.mem_singleton.mp z] at hcl
      exact Nat.lt_irrefl _ hcl
    · intro href hhref
      refine ⟨fun A' E' i v s₂ m₂ hA hD hU hPv hn hm hk => ?_, fun A' E' i v s₂ m₂ hA hD hU hPv hp hn hm hk => ?_⟩
      · simp only [List.forIn_nil]
        exact wpAny_pure ⟨rfl, GxR.keeps_refl _⟩
      · have key : ∀ b o, b ≠ P → s1.heap.get? b = some o → s₂.heap.get? b = some o := fun b o hb e =>
          hk b (List.mem_range.mpr (Heap.lt_size (keep3 b o hb e))) (fun z => by
            have l := Heap.lt_size e
            rw [List.mem_singleton.mp z] at l
            exact Nat.lt_irrefl _ l) o (hhref b o (keep3 b o hb e))
        have hi' : i < its.length := by
          have := (Array.getElem?_eq_some_iff.mp hPv).1
          simpa using this
        obtain ⟨v', ev, rel⟩ := rv.get (List.getElem?_eq_getElem (show i < xs.length by omega))
        have evv : v' = v := by
          have h1 : its[i]? = some v := by simpa using hPv
          rw [h1] at ev
          exact (Option.some.inj ev).symm
        subst evv
        have hb1 : bs[i]? = some (bs.getD i false) := by
          rw [List.getD_eq_getElem?_getD, List.getElem?_eq_getElem (show i < bs.length by omega)]
          rfl
        have o1 := okI I1 rel (hok i _ _ (List.getElem?_eq_getElem (show i < xs.length by omega)) hb1)
        have o2 := okk _ s₂.heap _ _ o1 fun a' o e g => key a' o (fun z => by
          obtain ⟨o', g1, g2⟩ := okr _ _ _ a' o1 e
          rw [z, hPs] at g1
          cases g1
          exact g2 rfl) g
        refine wpAny_mono (hel _ A' E' v' _ s₂ m₂ hA hD rfl I1.ok.glob rfl (stB.keeps fun b o e => key b o (bP b o e) (I1.bk b o e)) ?_ hn hm o2) (fun y s3 r => ⟨⟨by simpa using hi', r.1⟩, r.2⟩) fun _ _ e => e
        exact cpk s1.heap s₂.heap (fun b o hc e => key b o (fun z => by
          rw [z, hPs] at e
          cases e
          exact hc rfl) e) (cpI I1 hcap)
    · intro g h5 tk5 gs hgb hag hsz5 hk5 W5 hat
      simp only [GxR.passing_true, List.length_range] at W5
      refine Calls.spliced_nil ?_
      have W := W5.in4_1
      refine call_all_walkS (W.self 0 _ _ _ hat ⟨g, _, _, _, _, _, _, fun j => bs.getD j false, rfl, W, hat, ?_, fun s' hm => ?_⟩)
      · intro j y sj Qj Ej hy hQj
        obtain ⟨i, hij, hi2, rfl⟩ := hy
        try rw [GxR.passing_true] at hij
        obtain ⟨hj, ej⟩ := List.getElem?_eq_some_iff.mp hij
        rw [List.getElem_range] at ej
        subst ej
        exact wpAny_truthy_bool hQj
      · obtain ⟨more, em⟩ := hmore
        have nwr : ∀ b u, s1.heap.get? b = some u → b ∉ h3.objs.size :: [s1.heap.objs.size] := fun b u e hb => by
          have hl := Heap.lt_size e
          simp only [List.mem_cons, List.not_mem_nil, or_false] at hb
          rcases hb with z | z
          · rw [z] at hl
            have h9 : (h3.objs.size : Nat) < s1.heap.objs.size := hl
            omega
          · rw [z] at hl
            exact Nat.lt_irrefl _ hl
        have J := inv_tab (more := more) (h' := s'.heap) (g' := s'.gens) (d' := s'.drawn) (t' := s'.toks) I1 hP (fun b u hb e => hm.heap b u (nwr b u e) (hk5 b u (keep3 b u hb e)))
          (by rw [← em]; exact hm.heap P _ (nwr P _ hPs) (hk5 P _ hP3)) (AllBare.movedS (I1.bare.push hgb) hm)
        rw [sh_eta s1 s' hm.os] at J
        have tb : Tabbed P H1 (upd H1 P (.tbl (ps ++ more))) := ⟨⟨ps ++ more, upd_same, by rw [← em]; exact ht3⟩, fun b hb => upd_ne hb⟩
        refine ⟨.bl _, _, J, ?_, q _ (Same.tabbed hT tb) tb.1⟩
        show Value.bool _ = Value.bool _
        rw [← all_range bs, show its.toArray.size = bs.length by simp; omega]
  refine ⟨lim2, ?_⟩
  cases hf : codeAmong gpos ps.toList with
  | none =>
    refine wpAny_genexprCodeX hcode (cd.code hP2 ht) (cd.tab hP2) hf fun c' h' tk hx hge hlt hco' _ htab' _ => ?_
    obtain ⟨o1, vs, f1, tf, fl, tg, inF, tx, tt, op, _, _, _, _, _, _, _, _, _, htr, _⟩ := hco'
    exact cont _ h' tk _ hx (Nat.le_trans hge (Nat.le_of_lt hlt)) htab'.2 ⟨_, rfl⟩ htr
  | some cv =>
    refine wpAny_genexprCode_hit hcode (cd.code hP2 ht) hf ?_
    exact cont cv (s1.heap.push ito) s1.toks ps (Heap.ExtBut.refl _ _) (Nat.le_refl _) hP2 ⟨#[], by simp⟩ ht
end
end Cl

namespace Cl
open PySem PySem.Spec PyProof.Rows L2
open GxR (TabB TabG)
/-! ### a def whose code object's table grows -/
section
variable {P : Program} {w : World} {K : PySem.W.Frag} {mg : Str → Option Value} {base : Heap}
theorem okGT {x qual : Str} {st : Stmt} {f : Addr} {fd : FuncData} {N ps : List Str} {k : Nat} {sp : Sp} {c : Addr}
    (F : Fun K x qual st f fd) (hc : fd.code = .ref c) (S : FnScope N ps (defScope st))
    (len : ∀ vs H Q E, sp vs H Q E → vs.length = ps.length)
    (body : ∀ (A : Around) (outer : List Env) (s : Shared) (H : Hp) (vs : List V) (Q : VK) (E : XK),
      RG k (A.deeper (envOfC qual (defScope st) s.heap.objs.size f (.ref c))) → sp vs H Q E →
      ∃ t, PSs (cxOf CX0 P w K mg base N qual (defScope st) f (.ref c) A outer s H E).nox (defBody st) t ∧
        t { nx := fun _ H' => Q .non H', rt := Q } (start N vs) H) :
    FnG P w K mg base CX0 (k + 1) f fd ps sp := by
  obtain ⟨oc, od, kV, doc, pm, an, cdv, ct, osl, rfl, lk, hcd⟩ := F.ex
  have hc : cdv = .ref c := hc
  subst hc
  constructor
  · exact len
  intro A outer s H args us vs Q E hr e0 hb r hsp
  have nvs := len _ _ _ _ hsp
  have keepB : ∀ b o, base.get? b = some o → s.heap.get? b = some o := fun b o z => (e0.bs b o z).1
  have inK : K.In s.heap := e0.mod.kin.keeps keepB
  have nolim : s.heap.NoLimit := e0.mod.nolimit.keeps keepB
  have kinds : ∀ y ∈ ps.zip us, (defScope st).names.lookup y.1 = some .local ∨
      ((defScope st).names.lookup y.1 = some .cell ∧
        ((cellsFrom (s.heap.objs.size + 1) (defScope st).names []).lookup y.1).isSome = true) := by
    rintro ⟨n, v⟩ hy
    rcases S.par n (List.of_mem_zip hy).1 with z | z
    · exact .inl z
    · exact .inr ⟨z, PySem.W.cellsFrom_some _ _ _ (.inl z)⟩
  refine codeAny_call_function hr.room.depth (inK _ _ lk) rfl S.co S.gen rfl
    (PySem.W.codeRec_of inK hcd) (hb _ _ _ _ ?_)
  refine wpAny_newFunctionEnv_cells S.kind kinds fun env he s1 x => ?_
  subst he
  refine ⟨nolim.keeps x.toInCall.keep, codeAny_func ?_⟩
  have hr2 : RG k (A.deeper (envOfC qual (defScope st) s.heap.objs.size f (.ref c))) := ⟨hr.room.deeper _, hr.gd⟩
  obtain ⟨t, ht, hq⟩ := body A outer s H vs Q E hr2 hsp
  have I : Inv (cxOf CX0 P w K mg base N qual (defScope st) f (.ref c) A outer s H E) [] (start N vs) H s1 :=
    inv_start S hr.room.hd e0 nvs r x
  refine wpAny_mono (ht.nox.run [] s1 (start N vs) H _ I hq) (fun fl s' hs => ?_) fun _ _ z => z
  match fl, hs with
  | .ret u, ⟨v, σ', H', J, rv, q⟩ => exact ⟨v, H', J.os, J.bare, J.base, J.hok, rv, q⟩
  | .next, ⟨σ', H', J, q⟩ => exact ⟨V.non, H', J.os, J.bare, J.base, J.hok, rfl, q⟩
  | .brk, ⟨_, _, _, q⟩ => exact q.elim
  | .cont, ⟨_, _, _, q⟩ => exact q.elim
end
/-! ### the end: the law's call, some defs' tables growing -/
def TabN (mg : Str → Option Value) (h : Heap) (n : Str) : Prop := ∃ (f : Addr) (o : Obj) (fd : FuncData) (c P : Addr), mg n = some (.ref f) ∧ h.get? f = some o ∧ o.data = .func fd ∧ fd.code = .ref c ∧ PySem.W.CodeHd h c P ∧ h.TableAt c P #[]
theorem endGT {l : PySem.W.OpenLaw} {n k : Nat} {q : Program} {loose : List Str} {XP : (Str → Option Value) → Heap → Prop}
    {YP : World → Heap → Prop} {d : DefRec} {K : Params → PySem.W.Frag} {sp : PySem.W.Frag → List (Addr × Addr) → Sp} {x : Str} {ts : List Str}
    (hn : l.most = some n) (hn2 : n ≤ sizeLine) (hdf : d.params.defaults = []) (hr : RG k callerA) (hrec : (ts.all fun n => (recsOf q).any fun e => e.name == n) = true)
    (hY : ∀ (w : World) (h : Heap), YP w h → (K w.params).In h)
    (F : ∀ (w : World) (mg : Str → Option Value) (fa : Addr) (h : Heap), (K w.params).In h → h.Ns mainGlobals mg →
      mg d.name = some (.ref fa) → (∀ n ∈ ts, TabN mg h n) → ∃ (fd : FuncData) (cs : List (Addr × Addr)), (∀ p ∈ cs, PySem.W.CodeHd h p.1 p.2 ∧ h.TableAt p.1 p.2 #[] ∧ (K w.params).lookup p.2 = none) ∧ (∀ (s : Shared) (u : Value), BindsTo s fd ⟨[u], []⟩ [(x, u)]) ∧
        ∀ base : Heap, (K w.params).In base → base.Ns mainGlobals mg → (∀ p ∈ cs, TabB base mg p.1 p.2) → FnG l.prog w (K w.params) mg base CX0 k fa fd [x] (sp (K w.params) cs))
    (hsp : ∀ (w : World) (cs : List (Addr × Addr)) (H : Hp) (a : Addr) (ns : List Int), ns.length ≤ n → (∀ z ∈ ns, Builtin.Int.intBits z ≤ 1048576) →
      (∀ p ∈ cs, H p.2 = some (.tbl #[])) → SqL (K w.params) H a (ns.map V.int) → sp (K w.params) cs [.ref a] H (fun v _ => v = .bl true) E0) :
    PySem.W.WalkO q loose XP YP l.row.toRowW d [] (fun f vs => PySem.call f vs) := by
  refine Att.attach_callB hn hdf fun w s₀ s1 mg mb fa o pm cd doc a us ns G Y ho hd hcd hmg obj hints nlen bits gens => ?_
  have inK : (K w.params).In s1.heap := hY w _ Y
  have tn : ∀ n ∈ ts, TabN mg s1.heap n := fun n hn => by
    obtain ⟨dL, h1, h2⟩ := List.any_eq_true.mp (List.all_eq_true.mp hrec n hn)
    have h2 : dL.name = n := beq_iff_eq.mp h2
    obtain ⟨f, o, fd, c, P, t1, t2, t3, t4, t5, t6⟩ := G.T.tab dL h1
    exact ⟨f, o, fd, c, P, by rw [← h2]; exact t1, t2, t3, t4, .of t5 t6, t6⟩
  obtain ⟨fd, cs, hcs, bind, hF⟩ := F w mg fa _ inK G.T.g hmg tn
  have rv := vals_ints hints
  have nv : us.length = ns.length := hints.length
  obtain ⟨T, hT⟩ : ∃ T, T = cs.map (·.2) := ⟨_, rfl⟩
  have isT : ∀ b ∈ T, s1.heap.get? b = some { cls := .none, data := .fields #[] } := fun b hb => by
    rw [hT] at hb
    obtain ⟨p, hp, e⟩ := List.mem_map.mp hb
    rw [← e]
    exact (hcs p hp).2.1.2
  have memT : ∀ p ∈ cs, p.2 ∈ T := fun p hp => by rw [hT]; exact List.mem_map.mpr ⟨p, hp, rfl⟩
  have aT : a ∉ T := fun z => by
    have q := isT a z
    rw [obj] at q
    have z' : Data.seq us.toArray _ = Data.fields #[] := congrArg Obj.data (Option.some.inj q)
    cases z'
  have small : ns.length ≤ sizeLine := Nat.le_trans nlen hn2
  have go : ∀ H : Hp, (∀ b ∈ T, H b = some (.tbl #[])) → (∀ b, b ∉ T → H b = none ∨ ∃ ob xs, H b = some (.frz ob (.lst xs))) → SqL (K w.params) H a (ns.map V.int) → HOk l.prog w H s1.heap → (∀ b, H b ≠ none → b = a ∨ b ∈ T) →
      (H a ≠ none → (K w.params).lookup a = none) → codeAny (model l.prog w) callerA (.call (.ref fa) ⟨[.ref a], []⟩)
        (fun r s' => r = .ok (.ret (.bool true)) ∧ OldK s1.heap s'.heap ∧ s'.os = s1.os ∧ AllBare s'.gens) s1 := by
    intro H hTb only hS hok atA offK
    have left : ∀ {b : Addr} {o : Obj}, s1.heap.get? b = some o → H b = none → (hidT s1.heap H).get? b = some o :=
      fun e z => hidT_get e z
    -- what is no list and no empty table is not tracked
    have nothing : ∀ {b : Addr} {o : Obj}, s1.heap.get? b = some o → (∀ vs n, o.data ≠ .seq vs n) → o.data ≠ .fields #[] → H b = none := fun {b o} e h1 h2 => by
      cases z : H b with
      | none => rfl
      | some u =>
        rcases atA b (by rw [z]; intro y; cases y) with y | y
        · rw [y, obj] at e
          cases e
          exact absurd rfl (h1 _ _)
        · rw [isT b y] at e
          cases e
          exact absurd rfl h2
    have spaces : ∀ {b : Addr} {m : Str → Option Value}, s1.heap.Ns b m → (hidT s1.heap H).Ns b m :=
      fun {b m} ⟨o, es, ep, e, z, r⟩ => ⟨o, es, ep, left e (nothing e (fun vs n y => by rw [z] at y; cases y) (fun y => by rw [z] at y; cases y)), z, r⟩
    have inB : (K w.params).In (hidT s1.heap H) := fun b o e => left (inK b o e) (by
      cases z : H b with
      | none => rfl
      | some u =>
        rcases atA b (by rw [z]; intro y; cases y) with y | y
        · subst y
          rw [offK (by rw [z]; intro y; cases y)] at e
          cases e
        · rw [hT] at y
          obtain ⟨p, hp, ep⟩ := List.mem_map.mp y
          rw [← ep, (hcs p hp).2.2] at e
          cases e)
    have md : Mod (K w.params) mg (hidT s1.heap H) := by
      obtain ⟨mc, c1, c2⟩ := G.T.nolimit
      exact ⟨inB, spaces G.T.g, ⟨mb, spaces G.T.b, G.T.builtins⟩, ⟨mc, spaces c1, c2⟩⟩
    have TB : ∀ p ∈ cs, TabB (hidT s1.heap H) mg p.1 p.2 := fun p hp => by
      have hTp := isT _ (memT p hp)
      refine ⟨?_, ?_, fun z => ?_⟩
      · obtain ⟨o, us', file, tf, flags, tg, inF, text, tt, e1, r1, r2, r3, r⟩ := (hcs p hp).1
        refine ⟨o, us', file, tf, flags, tg, inF, text, tt, left e1 (nothing e1 (fun vs n z => ?_) fun z => ?_), r1, r2, r3, r⟩
        · rw [r2] at z
          cases z
        · rw [r2] at z
          cases z
          simp at r3
      · obtain ⟨bm, ob, b1, b2, b3, b4, b5, b6⟩ := G.T.bmain
        have nG : bm ≠ mainGlobals := fun y => by
          obtain ⟨o, es, ep, e, z, _⟩ := G.T.g
          rw [y, e] at b3
          cases b3
          rw [z] at b6
          cases b6
        have nP : bm ≠ p.2 := fun y => by
          rw [y, hTp] at b3
          cases b3
          cases b6
        refine ⟨bm, ob, b1, b2, nG, nP, left b3 (nothing b3 (fun vs n z => ?_) fun z => ?_), b4, b5, b6⟩
        · rw [b6] at z
          cases z
        · rw [b6] at z
          cases z
      · obtain ⟨o, es, ep, e, y, _⟩ := G.T.g
        rw [z, hTp] at e
        cases e
        cases y
    have e0 : Env0 l.prog w (K w.params) mg (hidT s1.heap H) callerA [] s1 H :=
      ⟨rfl, md, fun b o e => of_hidT e, Nat.le_of_eq (hidT_size _ _), trivial, fun b z => (nomatch z), hok, .of_eq gens⟩
    have run := (hF _ inB (spaces G.T.g) TB).run callerA [] s1 H ⟨[.ref a], []⟩ [.ref a] [.ref a] _ _ hr e0
      (bind s1 (.ref a)) (.cons rfl .nil) (hsp w cs H a ns nlen bits (fun p hp => hTb _ (memT p hp)) hS)
    refine codeAny_mono run fun res s' h => ?_
    match res, h with
    | .error e, h => exact h.elim
    | .ok .next, h => exact h.elim
    | .ok .brk, h => exact h.elim
    | .ok .cont, h => exact h.elim
    | .ok (.ret u), ⟨v, H', os, bare, un, hok', r', q⟩ =>
      have q' : v = .bl true := q
      subst q'
      have r2 : u = Value.bool true := r'
      subst r2
      have stays : ∀ b o, b ∉ T → s1.heap.get? b = some o → s'.heap.get? b = some o := fun b o hb e => by
        cases z : H b with
        | none => exact un.keep b o e z (fun y => (nomatch y)) (fun y => (nomatch y))
        | some u =>
          rcases only b hb with y | ⟨ob, xs, y⟩
          · rw [z] at y
            cases y
          · obtain ⟨e1, _⟩ := hok b _ y
            obtain ⟨e2, _⟩ := hok' b _ (un.frzs b ob _ y)
            rw [e] at e1
            cases e1
            exact e2
      have grows : ∀ b ∈ T, ∃ more : Array Value, s'.heap.get? b = some { cls := .none, data := .fields (#[] ++ more) } := fun b hb => by
        obtain ⟨more, z⟩ := un.tbls b #[] (hTb b hb)
        exact ⟨more, hok' b _ z⟩
      refine ⟨rfl, ⟨fun b o e => ?_, fun b o e => ?_⟩, os, bare⟩
      · by_cases hb : b ∈ T
        · obtain ⟨more, hm⟩ := grows b hb
          have hb2 := hb
          rw [hT] at hb2
          obtain ⟨p, hp, ep⟩ := List.mem_map.mp hb2
          rw [isT b hb] at e
          cases e
          exact .inr (.inl ⟨by rw [← ep]; exact (hcs p hp).2.1.isCodeTable, rfl, #[], more, rfl, hm⟩)
        · exact .inl (stays b o hb e)
      · by_cases hb : b ∈ T
        · obtain ⟨more, hm⟩ := grows b hb
          exact ⟨_, hm⟩
        · exact ⟨o, stays b o hb e⟩
  let Hf : Option HO → Hp := fun u b => if b ∈ T then some (.tbl #[]) else if b = a then u else none
  have hf : ∀ u b, b ∈ T → Hf u b = some (.tbl #[]) := fun u b hb => if_pos hb
  have hf2 : ∀ u b, b ∉ T → b ≠ a → Hf u b = none := fun u b hb hn => (if_neg hb).trans (if_neg hn)
  have hf3 : ∀ u, Hf u a = u := fun u => (if_neg aT).trans (if_pos rfl)
  cases hk : (K w.params).lookup a with
  | some o =>
    have e := inK a o hk
    rw [obj] at e
    cases e
    refine go (Hf none) (hf none) (fun b hb => ?_) (.inr ⟨_, us.toArray, _, hk, rfl, rfl, rfl, ?_, by simpa using rv⟩)
      (fun b u z => ?_) (fun b z => ?_) fun z => absurd (hf3 none) z
    · by_cases hn : b = a
      · rw [hn]; exact .inl (hf3 none)
      · exact .inl (hf2 none b hb hn)
    · rw [List.size_toArray, nv]
      exact small
    · by_cases hb : b ∈ T
      · rw [hf none b hb] at z
        cases z
        exact isT b hb
      · by_cases hn : b = a
        · rw [hn, hf3] at z; cases z
        · rw [hf2 none b hb hn] at z; cases z
    · by_cases hb : b ∈ T
      · exact .inr hb
      · by_cases hn : b = a
        · exact .inl hn
        · exact absurd (hf2 none b hb hn) z
  | none =>
    let ob : Obj := { cls := .type "list", data := .seq us.toArray }
    refine go (Hf (some (.frz ob (.lst (ns.map V.int))))) (hf _) (fun b hb => ?_) (.inl (.inr ⟨ob, hf3 _⟩)) (fun b u z => ?_) (fun b z => ?_) fun _ => hk
    · by_cases hn : b = a
      · rw [hn]; exact .inr ⟨_, _, hf3 _⟩
      · exact .inl (hf2 _ b hb hn)
    · by_cases hb : b ∈ T
      · rw [hf _ b hb] at z
        cases z
        exact isT b hb
      · by_cases hn : b = a
        · rw [hn, hf3] at z
          cases z
          rw [hn]
          exact ⟨obj, by rw [List.length_map]; exact small, us, _, rv, obj⟩
        · rw [hf2 _ b hb hn] at z; cases z
    · by_cases hb : b ∈ T
      · exact .inr hb
      · by_cases hn : b = a
        · exact .inl hn
        · exact absurd (hf2 _ b hb hn) z
end Cl

namespace Cl
open PySem PySem.Spec PyProof.Rows L2
open GxR (TabB TabG Tabbed GenS)
/-! ### all(is_whole(part) for part in thing) -/
/-- a tuple of these parts, or another thing -/
def Th (K : PySem.W.Frag) (H : Hp) (v : V) : Option (List V) → Prop
  | none => ∃ T, Kd K H v T ∧ T ≠ "tuple"
  | some xs => ∃ a, v = .ref a ∧ SqT K H a xs ∧ ∀ x ∈ xs, ∃ T, Kd K H x T
theorem Kd.same {K : PySem.W.Frag} {H H' : Hp} {v : V} {T : String} (h : Kd K H v T) (s : Same H H') : Kd K H' v T := by
  cases h with
  | non => exact .non
  | bl b => exact .bl b
  | int i => exact .int i
  | str x => exact .str x
  | lst h => exact .lst (by
      rcases h with (h | ⟨o, h⟩) | h
      · exact .inl (.inl (s _ _ h))
      · exact .inl (.inr ⟨o, s _ _ h⟩)
      · exact .inr h)
  | tup h => exact .tup (seT s h)
  | dct h => exact .dct (s _ _ h)
theorem Th.same {K : PySem.W.Frag} {H H' : Hp} {v : V} {o : Option (List V)} (h : Th K H v o) (s : Same H H') : Th K H' v o := by
  cases o with
  | none => obtain ⟨T, h, n⟩ := h; exact ⟨T, h.same s, n⟩
  | some xs => obtain ⟨a, e, h, p⟩ := h; exact ⟨a, e, seT s h, fun x hx => let ⟨T, q⟩ := p x hx; ⟨T, q.same s⟩⟩
def wholes : Option (List V) → Int → Bool
  | none, _ => false
  | some xs, m => decide ((xs.length : Int) = m) && xs.all isI
def spAre (K : PySem.W.Frag) (P : Addr) : Sp := fun vs H Q _ => ∃ v m o, vs = [v, .int m] ∧ TabG H P ∧ Th K H v o ∧ ∀ H', Same H H' → Q (.bl (wholes o m)) H'
/-- is_whole(u), told quietly -/
def okQ (K : PySem.W.Frag) (h : Heap) (u : Value) (b : Bool) : Prop := ∃ T b1 b2, KQ K h u T ∧ kitB T "int" = some b1 ∧ kitB T "bool" = some b2 ∧ b = (b1 && !b2)
section
variable {P : Program} {w : World} {K : PySem.W.Frag} {mg : Str → Option Value}
theorem elt_qw {fn x : Str} {f : Addr} {p1 p2 p3 : Pos} {scope : Scope} {D : Nat} {Cp : List (Str × Addr) → Heap → Prop} (W : QW P w K mg f) (hD : D < recursionLimit) (hf : mg fn = some (.ref f)) (hkf : PySem.W.keepIn K (.ref f) = true)
    (hk : scope.kind = .function) (hl : scope.names.lookup x = some .local) (hg : scope.names.lookup fn = some .globalImplicit) (hd : (x == ("__debug__" : Str)) = false := by decide) (hdf : (fn == ("__debug__" : Str)) = false := by decide) :
    EltT P w K mg scope x (.Call (.Name fn p1) [.Name x p2] [] p3) D Cp (okQ K) := by
  intro cenv A' E' u b s m hA hdep hs hglo hblt St hcp hn hm ok
  obtain ⟨T, b1, b2, q, e1, e2, rfl⟩ := ok
  refine wpAny_Call_Name_kw (Calls.Name_function_global (by rw [hs]; exact hk) (show cenv.scope.names.lookup fn = some .globalImplicit by rw [hs]; exact hg) (Calls.loadGlobal_global (by rw [hglo]; exact St.2.1) hf ?_) hdf)
  refine PySem.W.callWith_K (h₀ := s.heap) (first := []) St.1 hkf ?_
  show wpAny _ _ (spliced [(false, eval (.Name x p2) cenv)]) _ _ s
  refine Calls.spliced_cons (wpAny_Name (wpAny_loadName_local (by rw [hs]; exact hk) (show cenv.scope.names.lookup x = some .local by rw [hs]; exact hl) hn hm ?_) hd)
  refine Calls.spliced_nil ⟨St.1, wpAny_call (codeAny_mono (W.run A' s u T b1 b2 (by omega) St q e1 e2) fun res s' hq => ?_)⟩
  obtain ⟨rfl, k⟩ := hq
  exact ⟨rfl, k⟩
theorem okQ.keeps {h h' : Heap} {u : Value} {b : Bool} (q : okQ K h u b) (k : ∀ a o, u = .ref a → h.get? a = some o → h'.get? a = some o) : okQ K h' u b := by
  obtain ⟨T, b1, b2, q, e⟩ := q
  exact ⟨T, b1, b2, q.keeps k, e⟩
theorem okQ.cls {h : Heap} {u : Value} {b : Bool} {a : Addr} (q : okQ K h u b) (e : u = .ref a) : ∃ o, h.get? a = some o ∧ o.cls ≠ .none := by
  obtain ⟨T, b1, b2, q, _⟩ := q
  obtain ⟨_, _, _, _, _, c⟩ := q
  obtain ⟨o, g, w⟩ := c a e
  exact ⟨o, g, by rw [w]; exact fun z => nomatch z⟩
theorem okQ.of {X : Cx} {pins : List (Addr × Obj)} {σ : L2.St} {H : Hp} {s : Shared} {v : V} {T : String} {u : Value} (I : Inv X pins σ H s) (h : Kd X.K H v T) (r : RelV v u) : okQ X.K s.heap u (isI v) := by
  refine ⟨T, _, _, h.kq I r, h.int?, h.bool?, ?_⟩
  cases v <;> first | rfl | (rename_i b; cases b <;> rfl)
end
end Cl
namespace Cl
open PySem PySem.Spec PyProof.Rows L2
open GxR (TabB TabG Tabbed GenS)
section
variable {X : Cx}
theorem pe_allW {c P f : Addr} {iter : Expr} {fn x : Str} {px p pos gpos p1 p2 p3 : Pos} {scope : Scope} {te : TE} {k : Nat}
    (hr : Room k X.A) (hD : X.A.depth + 1 < recursionLimit) (hg : Gl X "all") (hm : X.mg "all" = none) (TB : TabB X.base X.mg c P) (hcode : X.env.code = .ref c) (W : QW X.prog X.w X.K X.mg f) (hf : X.mg fn = some (.ref f)) (hkf : PySem.W.keepIn X.K (.ref f) = true)
    (hi : PE X iter te) (S : GenS X.env scope x) (hgf : scope.names.lookup fn = some .globalImplicit) (hs : ∀ v, genFold iter X.env v = pure v := by intro _; rfl)
    (hd : (x == ("__debug__" : Str)) = false := by decide) (hdf : (fn == ("__debug__" : Str)) = false := by decide)
    (he : starEach [.GeneratorExp (.Call (.Name fn p1) [.Name x p2] [] p3) [⟨.Name x px, iter, [], 0⟩] scope gpos] X.env = (false, eval (.GeneratorExp (.Call (.Name fn p1) [.Name x p2] [] p3) [⟨.Name x px, iter, [], 0⟩] scope gpos) X.env) :: starEach [] X.env := by rfl) :
    PE X (.Call (.Name "all" p) [.GeneratorExp (.Call (.Name fn p1) [.Name x p2] [] p3) [⟨.Name x px, iter, [], 0⟩] scope gpos] [] pos) (tAllT X.K P (fun _ _ => True) (fun H v b => ∃ T, Kd X.K H v T ∧ b = isI v) te) :=
  pe_allT (Cp := fun _ _ => True) (ok := okQ X.K) hr hg hm TB hcode S hi (elt_qw W hD hf hkf S.kind S.loc hgf hd hdf) (fun _ _ _ _ q k => q.keeps k) (fun _ _ _ _ q e => q.cls e)
    (fun I r ⟨T, h, e⟩ => by rw [e]; exact .of I h r) (fun _ _ => trivial) (fun _ _ _ q => q) trivial hs he
end
end Cl
namespace Cl
open PySem PySem.Spec PyProof.Rows L2
open GxR (TabB TabG Tabbed GenS)
theorem roomD {k : Nat} {A : Around} (r : Room k A) : A.depth + 1 < recursionLimit := by have := r.dp; omega
theorem genS {env : Env} {scope : Scope} {x : Str} (h1 : scope.kind = .function) (h2 : scope.isCoroutine = false) (h3 : ∀ y ∈ scope.names, y.2 ≠ .cell ∧ y.2 ≠ .free) (h4 : scope.names.lookup (".0" : Str) = some NameKind.local) (h5 : scope.names.lookup x = some .local) : GenS env scope x :=
  ⟨h1, h2, fun y h => (h3 y h).1, h4, h5, fun y h e => absurd e (h3 y h).2⟩
end Cl

namespace Cl
open PySem PySem.Spec PyProof.Rows L2
/-! ### pairs of whole numbers -/
def pd (p : Int × Int) : PyData := .tuple [.int p.1, .int p.2]
def At2 (K : PySem.W.Frag) (H : Hp) (v : V) (p : Int × Int) : Prop := ∃ a, v = .ref a ∧ SqT K H a [.int p.1, .int p.2]
def llt (p q : Int × Int) : Bool := decide (p.1 < q.1 ∨ (p.1 = q.1 ∧ p.2 < q.2))
def mn (p q : Int × Int) : Int × Int := if llt q p then q else p
def mx (p q : Int × Int) : Int × Int := if llt p q then q else p
theorem At2.dp {K : PySem.W.Frag} {H : Hp} {v : V} {p : Int × Int} (h : At2 K H v p) : Dp K H v (pd p) := by
  obtain ⟨a, rfl, h⟩ := h
  exact .tup h (.cons (.int _) (.cons (.int _) .nil))
theorem At2.same {K : PySem.W.Frag} {H H' : Hp} {v : V} {p : Int × Int} (h : At2 K H v p) (s : Same H H') : At2 K H' v p := by
  obtain ⟨a, rfl, h⟩ := h
  exact ⟨a, rfl, seT s h⟩
theorem lt_pd (p q : Int × Int) : PySem.W.dataLt (pd p) (pd q) = llt p q := by
  obtain ⟨a, b⟩ := p
  obtain ⟨c, d⟩ := q
  have e1 : PySem.W.keyToks (pd (a, b)) = [.inl 1, .inl a, .inl 1, .inl b, .inl 0] := by simp [pd, PySem.W.keyToks, PySem.W.keyToksAll]
  have e2 : PySem.W.keyToks (pd (c, d)) = [.inl 1, .inl c, .inl 1, .inl d, .inl 0] := by simp [pd, PySem.W.keyToks, PySem.W.keyToksAll]
  unfold PySem.W.dataLt llt
  rw [e1, e2, lex_self (O := itemOrd)]
  by_cases h : a = c
  · subst h
    rw [lex_self (O := itemOrd), lex_self (O := itemOrd)]
    by_cases h2 : b = d
    · subst h2
      rw [lex_self (O := itemOrd), lex_self (O := itemOrd)]
      simp
      rfl
    · rw [lex_diff (O := itemOrd) (by simpa using h2)]
      show decide (b < d) = _
      simp
  · rw [lex_diff (O := itemOrd) (by simpa using h)]
    show decide (a < c) = _
    simp [h]
theorem alike_pd (p q : Int × Int) : PySem.W.alike (pd p) (pd q) = true := rfl
theorem pd_inj {p q : Int × Int} (h : pd p = pd q) : p = q := by
  unfold pd at h
  injection h with h
  injection h with h1 h2
  injection h1 with h1
  injection h2 with h2 _
  injection h2 with h2
  exact Prod.ext h1 h2
section
variable {X : Cx}
def rCmp2 (K : PySem.W.Frag) (f : Int × Int → Int × Int → Bool) : R2 := fun x y H Q => ∃ p q, At2 K H x p ∧ At2 K H y q ∧ Q (.bl (f p q)) H
theorem op_le2 (hu : X.A.units + 64 < cLine) : OpR X (compareOp .LtE) (rCmp2 X.K fun p q => !llt q p) := by
  intro pins s σ H x y v u Q I rx ry ⟨p, q, hp, hq, h⟩
  obtain ⟨as, r1⟩ := Dp.reads I _ x v hp.dp rx
  obtain ⟨bs, r2⟩ := Dp.reads I _ y u hq.dp ry
  exact PySem.W.le_data r1 r2 (alike_pd p q) (fun z => nomatch z) (by show X.A.units + min 1 1 < cLine; omega) ⟨.bl _, H, I, rfl, by rw [lt_pd]; exact h⟩
theorem op_gt2 (hu : X.A.units + 64 < cLine) : OpR X (compareOp .Gt) (rCmp2 X.K fun p q => llt q p) := by
  intro pins s σ H x y v u Q I rx ry ⟨p, q, hp, hq, h⟩
  obtain ⟨as, r1⟩ := Dp.reads I _ x v hp.dp rx
  obtain ⟨bs, r2⟩ := Dp.reads I _ y u hq.dp ry
  exact PySem.W.gt_data r1 r2 (alike_pd p q) (fun z => nomatch z) (by show X.A.units + min 1 1 < cLine; omega) ⟨.bl _, H, I, rfl, by rw [lt_pd]; exact h⟩

/-- min, max of a tuple of two pairs: the pair itself -/
def rBest1 (K : PySem.W.Frag) (f : Int × Int → Int × Int → Int × Int) : List V → Hp → VK → Prop := fun xs H Q =>
  ∃ a u v p q, xs = [.ref a] ∧ SqT K H a [u, v] ∧ At2 K H u p ∧ At2 K H v q ∧ ∀ w, (w = u ∨ w = v) → At2 K H w (f p q) → Q w H
def rBest2 (K : PySem.W.Frag) (f : Int × Int → Int × Int → Int × Int) : List V → Hp → VK → Prop := fun xs H Q =>
  ∃ u v p q, xs = [u, v] ∧ At2 K H u p ∧ At2 K H v q ∧ ∀ w, (w = u ∨ w = v) → At2 K H w (f p q) → Q w H
theorem pick2 {pins : List (Addr × Obj)} {σ : L2.St} {H : Hp} {s : Shared} {h' : Heap} {tk : Nat} {u v : V} {u0 v0 w0 : Value} {p q r : Int × Int} {bs : List Addr} {Q : VK} {i : Nat}
    (I : Inv X pins σ H s) (hk : ∀ b o, s.heap.get? b = some o → h'.get? b = some o) (ru : RelV u u0) (rv : RelV v v0) (hu : At2 X.K H u p) (hv : At2 X.K H v q)
    (e : #[u0, v0][i]? = some w0) (rd : Reads h' w0 (pd r) bs) (h : ∀ w, (w = u ∨ w = v) → At2 X.K H w r → Q w H) :
    EP X pins σ Q w0 { s with heap := h', toks := tk } := by
  have J : Inv X pins σ H { s with heap := h', toks := tk } := I.kept hk
  match i, e with
  | 0, e =>
    cases e
    obtain ⟨as, r1⟩ := Dp.reads J _ u u0 hu.dp ru
    have e2 := pd_inj (rd.unique _ _ r1).1
    subst e2
    exact ⟨u, H, J, ru, h u (.inl rfl) hu⟩
  | 1, e =>
    cases e
    obtain ⟨as, r1⟩ := Dp.reads J _ v v0 hv.dp rv
    have e2 := pd_inj (rd.unique _ _ r1).1
    subst e2
    exact ⟨v, H, J, rv, h v (.inr rfl) hv⟩
  | i + 2, e => exact absurd e (by simp)
theorem all_alike (p q : Int × Int) : PySem.W.AlikeAll [pd p, pd q] := by
  constructor
  · intro x hx y hy
    simp only [List.mem_cons, List.not_mem_nil, or_false] at hx hy
    rcases hx with rfl | rfl <;> rcases hy with rfl | rfl <;> rfl
  · intro x hx
    simp only [List.mem_cons, List.not_mem_nil, or_false] at hx
    rcases hx with rfl | rfl <;> exact fun z => nomatch z
theorem best_mn (p q : Int × Int) : PySem.W.minD (pd p) [pd q] = pd (mn p q) := by
  unfold PySem.W.minD mn
  simp only [List.foldl, lt_pd]
  split <;> rfl
theorem best_mx (p q : Int × Int) : PySem.W.maxD (pd p) [pd q] = pd (mx p q) := by
  unfold PySem.W.maxD mx
  simp only [List.foldl, lt_pd]
  split <;> rfl
theorem cr_min1 (hc : X.calm = true) (hu : X.A.units + 64 < cLine) : CallR X (.builtin "min") (rBest1 X.K mn) := by
  intro pins s σ H xs us Q I r ⟨a, u, v, p, q, e, hS, hp, hq, h⟩
  subst e
  rw [Vals.ref1 r]
  obtain ⟨its, rv, ht, hz⟩ := I.tuple hS
  obtain ⟨u0, v0, rfl, r1, r2⟩ := vals2 rv
  obtain ⟨as, rd1⟩ := Dp.reads I _ u u0 hp.dp r1
  obtain ⟨bs, rd2⟩ := Dp.reads I _ v v0 hq.dp r2
  refine PySem.W.min_tuple_data (x := pd p) (xs := [pd q]) (I.ok.hd hc) ht (.cons rd1 (.cons rd2 .nil)) (all_alike p q) (by show X.A.units + 1 + max 1 (max 1 0) < cLine; omega) fun i w h' tk cs hi rd hk => ?_
  rw [best_mn] at rd
  exact pick2 I hk r1 r2 hp hq hi rd h
theorem cr_max1 (hc : X.calm = true) (hu : X.A.units + 64 < cLine) : CallR X (.builtin "max") (rBest1 X.K mx) := by
  intro pins s σ H xs us Q I r ⟨a, u, v, p, q, e, hS, hp, hq, h⟩
  subst e
  rw [Vals.ref1 r]
  obtain ⟨its, rv, ht, hz⟩ := I.tuple hS
  obtain ⟨u0, v0, rfl, r1, r2⟩ := vals2 rv
  obtain ⟨as, rd1⟩ := Dp.reads I _ u u0 hp.dp r1
  obtain ⟨bs, rd2⟩ := Dp.reads I _ v v0 hq.dp r2
  refine PySem.W.max_tuple_data (x := pd p) (xs := [pd q]) (I.ok.hd hc) ht (.cons rd1 (.cons rd2 .nil)) (all_alike p q) (by show X.A.units + 1 + max 1 (max 1 0) < cLine; omega) fun i w h' tk cs hi rd hk => ?_
  rw [best_mx] at rd
  exact pick2 I hk r1 r2 hp hq hi rd h
/-- max(u, v), min(u, v) of two pairs -/
theorem cr_max2 (hc : X.calm = true) (hu : X.A.units + 64 < cLine) : CallR X (.builtin "max") (rBest2 X.K mx) := by
  intro pins s σ H xs us Q I r ⟨u, v, p, q, e, hp, hq, h⟩
  subst e
  obtain ⟨u0, v0, rfl, r1, r2⟩ := vals2 r
  have nm : (toString "max" ++ toString ".loop" : String) = "max.loop" := by decide
  have bp : Builtin.Builtins.bindParams "max" ["key", "default"] 0 ⟨[], []⟩ = pure [none, none] := rfl
  refine call_function_tree F.kind_max F.plain_max F.entry_max (F.args_max2 _ _) ?_
  show wpAny _ X.A.in1 (Builtin.Builtins.bindParams "max" ["key", "default"] 0 ⟨[], []⟩ >>= _) _ _ s
  refine wpAny_bind (wpAny_of_eq bp ?_)
  show wpAny _ X.A.in1 (newTuple [u0, v0] >>= _) _ _ s
  refine wpAny_bind (wpAny_newObj_type ?_)
  have I1 : Inv X pins σ H { s with heap := s.heap.push { cls := .type "tuple", data := .seq #[u0, v0] } } :=
    I.kept (t' := s.toks) fun b ob z => Heap.get?_push_of_some _ z
  obtain ⟨as, rd1⟩ := Dp.reads I1 _ u u0 hp.dp r1
  obtain ⟨bs, rd2⟩ := Dp.reads I1 _ v v0 hq.dp r2
  have rds : ReadsAll (s.heap.push { cls := .type "tuple", data := .seq #[u0, v0] }) [u0, v0] [pd p, pd q] _ := .cons rd1 (.cons rd2 .nil)
  have cm := PySem.W.cmpIn_gt (prog := X.prog) (w := X.w) (A := X.A.in1) (s := { s with heap := s.heap.push { cls := .type "tuple", data := .seq #[u0, v0] } }) (vs := #[u0, v0]) rds (all_alike p q)
    (by show X.A.units + 1 + max 1 (max 1 0) < cLine; omega)
  refine wpAny_bind (wpAny_mono (PySem.W.iter_tupleW (A := X.A.in1) (vs := #[u0, v0]) (I.ok.hd hc) ⟨_, Heap.get?_push_size _ rfl, rfl, _, rfl⟩ (Q := fun it s2 => ∃ I' fp wr, ∃ G : Array GenState → Array GenState → Prop, ∃ St : Nat → Shared → Prop, it = .ref I' ∧
    WalksS X.prog X.w X.A.in1 I' fp wr G 2 (fun i v => #[u0, v0][i]? = some v) St ∧ St 0 s2 ∧ (∀ b ∈ fp, b < s2.heap.objs.size) ∧ (∀ b o, (s.heap.push { cls := .type "tuple", data := .seq #[u0, v0] }).get? b = some o → b ∉ wr) ∧
    (∀ b o, (s.heap.push { cls := .type "tuple", data := .seq #[u0, v0] }).get? b = some o → s2.heap.get? b = some o) ∧ s2.os = s.os ∧ s2.gens = s.gens ∧ G = (fun a b => b = a) ∧ s2.drawn = s.drawn) fun s2 e2 W st hfp hw hk => ?_) (fun it s2 hh => ?_) fun _ _ z => z)
  · exact ⟨_, _, _, _, _, rfl, W, st, hfp, hw, hk, by rw [e2], by rw [e2], rfl, by rw [e2]⟩
  · obtain ⟨I', fp, wr, G, St, rfl, W, hst, hfp, hw, hkeep, eo, eg, hG, ed⟩ := hh
    refine wpAny_bind (wpAny_newObj_type ?_)
    have hSf : s2.heap.objs.size ∉ fp := fun hm => Nat.lt_irrefl _ (hfp _ hm)
    rw [nm]
    refine wpAny_pure ⟨plainId_quiet F.plain_max_loop _, codeAny_max_loop_firstH W _ hw _ cm s2.heap.objs.size hSf (fresh_in hkeep) _ (by decide)
      (fun b o e => Heap.get?_push_of_some _ (hkeep b o e)) (W.frame 0 s2 _ s2.toks hst (Nat.le_refl _) fun b _ o e => Heap.get?_push_of_some _ e) (Heap.get?_push_size _ rfl) fun v' s' hP hm => ?_⟩
    have m := Moved.drop_new (tk := s2.toks) hm (Nat.le_refl _)
    have eb : argBest (fun i j => PySem.W.dataLt ([pd p, pd q].getD j PyData.none) ([pd p, pd q].getD i PyData.none)) (2 - 1) = if llt p q = true then 1 else 0 := by
      show (if PySem.W.dataLt (pd p) (pd q) = true then 1 else 0) = _
      rw [lt_pd]
    rw [eb] at hP
    have hs' : s' = { s with heap := s'.heap, toks := s'.toks } := by
      obtain ⟨hp', g', d', tk', os'⟩ := s'
      have h1 := m.gens
      rw [hG] at h1
      have h1 : g' = s.gens := h1.trans eg
      have h2 : d' = s.drawn := m.drawn.trans ed
      have h3 : os' = s.os := m.os.trans eo
      subst h1 h2 h3
      rfl
    have J : Inv X pins σ H { s with heap := s'.heap, toks := s'.toks } := I.kept fun b o z => by
      have z1 := Heap.get?_push_of_some { cls := .type "tuple", data := .seq #[u0, v0] } z
      exact m.heap b o (hw _ _ z1) (hkeep _ _ z1)
    rw [hs']
    cases hl : llt p q with
    | true =>
      rw [hl] at hP
      cases hP
      have e3 : mx p q = q := if_pos hl
      exact ⟨v, H, J, r2, h v (.inr rfl) (by rw [e3]; exact hq)⟩
    | false =>
      rw [hl] at hP
      cases hP
      have e3 : mx p q = p := if_neg (by rw [hl]; decide)
      exact ⟨u, H, J, r1, h u (.inl rfl) (by rw [e3]; exact hp)⟩
/-- min(u, v) of two pairs -/
theorem cr_min2 (hc : X.calm = true) (hu : X.A.units + 64 < cLine) : CallR X (.builtin "min") (rBest2 X.K mn) := by
  intro pins s σ H xs us Q I r ⟨u, v, p, q, e, hp, hq, h⟩
  subst e
  obtain ⟨u0, v0, rfl, r1, r2⟩ := vals2 r
  have nm : (toString "min" ++ toString ".loop" : String) = "min.loop" := by decide
  have bp : Builtin.Builtins.bindParams "min" ["key", "default"] 0 ⟨[], []⟩ = pure [none, none] := rfl
  refine call_function_tree F.kind_min F.plain_min F.entry_min (F.args_min2 _ _) ?_
  show wpAny _ X.A.in1 (Builtin.Builtins.bindParams "min" ["key", "default"] 0 ⟨[], []⟩ >>= _) _ _ s
  refine wpAny_bind (wpAny_of_eq bp ?_)
  show wpAny _ X.A.in1 (newTuple [u0, v0] >>= _) _ _ s
  refine wpAny_bind (wpAny_newObj_type ?_)
  have I1 : Inv X pins σ H { s with heap := s.heap.push { cls := .type "tuple", data := .seq #[u0, v0] } } :=
    I.kept (t' := s.toks) fun b ob z => Heap.get?_push_of_some _ z
  obtain ⟨as, rd1⟩ := Dp.reads I1 _ u u0 hp.dp r1
  obtain ⟨bs, rd2⟩ := Dp.reads I1 _ v v0 hq.dp r2
  have rds : ReadsAll (s.heap.push { cls := .type "tuple", data := .seq #[u0, v0] }) [u0, v0] [pd p, pd q] _ := .cons rd1 (.cons rd2 .nil)
  have cm := PySem.W.cmpIn_lt (prog := X.prog) (w := X.w) (A := X.A.in1) (s := { s with heap := s.heap.push { cls := .type "tuple", data := .seq #[u0, v0] } }) (vs := #[u0, v0]) rds (all_alike p q)
    (by show X.A.units + 1 + max 1 (max 1 0) < cLine; omega)
  refine wpAny_bind (wpAny_mono (PySem.W.iter_tupleW (A := X.A.in1) (vs := #[u0, v0]) (I.ok.hd hc) ⟨_, Heap.get?_push_size _ rfl, rfl, _, rfl⟩ (Q := fun it s2 => ∃ I' fp wr, ∃ G : Array GenState → Array GenState → Prop, ∃ St : Nat → Shared → Prop, it = .ref I' ∧
    WalksS X.prog X.w X.A.in1 I' fp wr G 2 (fun i v => #[u0, v0][i]? = some v) St ∧ St 0 s2 ∧ (∀ b ∈ fp, b < s2.heap.objs.size) ∧ (∀ b o, (s.heap.push { cls := .type "tuple", data := .seq #[u0, v0] }).get? b = some o → b ∉ wr) ∧
    (∀ b o, (s.heap.push { cls := .type "tuple", data := .seq #[u0, v0] }).get? b = some o → s2.heap.get? b = some o) ∧ s2.os = s.os ∧ s2.gens = s.gens ∧ G = (fun a b => b = a) ∧ s2.drawn = s.drawn) fun s2 e2 W st hfp hw hk => ?_) (fun it s2 hh => ?_) fun _ _ z => z)
  · exact ⟨_, _, _, _, _, rfl, W, st, hfp, hw, hk, by rw [e2], by rw [e2], rfl, by rw [e2]⟩
  · obtain ⟨I', fp, wr, G, St, rfl, W, hst, hfp, hw, hkeep, eo, eg, hG, ed⟩ := hh
    refine wpAny_bind (wpAny_newObj_type ?_)
    have hSf : s2.heap.objs.size ∉ fp := fun hm => Nat.lt_irrefl _ (hfp _ hm)
    rw [nm]
    refine wpAny_pure ⟨plainId_quiet F.plain_min_loop _, codeAny_min_loop_firstH W _ hw _ cm s2.heap.objs.size hSf (fresh_in hkeep) _ (by decide)
      (fun b o e => Heap.get?_push_of_some _ (hkeep b o e)) (W.frame 0 s2 _ s2.toks hst (Nat.le_refl _) fun b _ o e => Heap.get?_push_of_some _ e) (Heap.get?_push_size _ rfl) fun v' s' hP hm => ?_⟩
    have m := Moved.drop_new (tk := s2.toks) hm (Nat.le_refl _)
    have eb : argBest (fun i j => PySem.W.dataLt ([pd p, pd q].getD i PyData.none) ([pd p, pd q].getD j PyData.none)) (2 - 1) = if llt q p = true then 1 else 0 := by
      show (if PySem.W.dataLt (pd q) (pd p) = true then 1 else 0) = _
      rw [lt_pd]
    rw [eb] at hP
    have hs' : s' = { s with heap := s'.heap, toks := s'.toks } := by
      obtain ⟨hp', g', d', tk', os'⟩ := s'
      have h1 := m.gens
      rw [hG] at h1
      have h1 : g' = s.gens := h1.trans eg
      have h2 : d' = s.drawn := m.drawn.trans ed
      have h3 : os' = s.os := m.os.trans eo
      subst h1 h2 h3
      rfl
    have J : Inv X pins σ H { s with heap := s'.heap, toks := s'.toks } := I.kept fun b o z => by
      have z1 := Heap.get?_push_of_some { cls := .type "tuple", data := .seq #[u0, v0] } z
      exact m.heap b o (hw _ _ z1) (hkeep _ _ z1)
    rw [hs']
    cases hl : llt q p with
    | true =>
      rw [hl] at hP
      cases hP
      have e3 : mn p q = q := if_pos hl
      exact ⟨v, H, J, r2, h v (.inr rfl) (by rw [e3]; exact hq)⟩
    | false =>
      rw [hl] at hP
      cases hP
      have e3 : mn p q = p := if_neg (by rw [hl]; decide)
      exact ⟨u, H, J, r1, h u (.inl rfl) (by rw [e3]; exact hp)⟩
end
end Cl

namespace Cl
open PySem PySem.Spec PyProof.Rows L2
def pr (q : Addr × List Int) : Int × Int := (q.2.getD 0 0, q.2.getD 1 0)
def le2 (q r : Addr × List Int) : Prop := llt (pr r) (pr q) = false
theorem pr_of {q : Addr × List Int} (h : q.2.length = 2) : q.2 = [(pr q).1, (pr q).2] := by
  obtain ⟨a, xs⟩ := q
  match xs, h with
  | [x, y], _ => rfl
section
variable {P : Program} {w : World} {A : Around} {E : Value → Shared → Prop} {s : Shared} {a : Addr} {L : List (Addr × List Int)}
  {es : Array (Int × Value)} {ep : Nat} {t : SetTable} {Q : Value → Shared → Prop}
/-- sorted(set) of pairs of any whole numbers -/
theorem sorted_set2 (R : SetTR P w s.heap a L es ep t) (hh : A.handled = none) (h2 : ∀ p ∈ L, p.2.length = 2) (hu : A.units + 64 < cLine)
    (hQ : ∀ s' p (out : Array Value) (c : Nat) (L' : List (Addr × List Int)), (∀ b o, s.heap.get? b = some o → s'.heap.get? b = some o) →
      s'.gens = s.gens → s'.os = s.os → s.heap.objs.size ≤ p → s'.heap.get? p = some (seqObj "list" out c) →
      out.toList = L'.map (fun q => Value.ref q.1) → L'.Perm L → L'.Pairwise le2 → Q (.ref p) s') :
    wpAny (model P w) A (call (.builtin "sorted") [.ref a]) Q E s := by
  obtain ⟨o, ho, hex, hd⟩ := R.ob
  have nfew := R.few
  refine Calls.call_function_entry kind_sorted plain_sorted entry_sorted (args_sorted1 _) ?_
  unfold Builtin.«sorted»
  refine wpAny_bind (m := checkCount "sorted" 1 1 _) (wpAny_pure ?_)
  refine wpAny_bind (collect_set (A := A.in1) hh ⟨o, ho, hex.1, hd⟩ R.fits (by unfold scanBound; have := R.size; omega) R.tab.ris R.led fun s1 vs k1 hz g1 o1 pm => ?_)
  have rows : es.toList.map (·.2) = L.map fun q => Value.ref q.1 := by
    rw [R.rows]
    unfold rowsOf
    rw [List.map_map]
    rfl
  rw [rows] at pm
  -- what was collected is the set's rows, put in some order
  obtain ⟨L1, e1, p1⟩ : ∃ L1 : List (Addr × List Int), vs = L1.map (fun q => Value.ref q.1) ∧ L1.Perm L := by
    clear hQ k1 g1 o1 hz
    have gen : ∀ (L : List (Addr × List Int)) (us vs : List Value), us = L.map (fun q => Value.ref q.1) → vs.Perm us → ∃ L1 : List (Addr × List Int), vs = L1.map (fun q => Value.ref q.1) ∧ L1.Perm L := by
      intro L us vs eu hp
      induction hp generalizing L with
      | nil =>
        cases L with
        | nil => exact ⟨[], rfl, .nil⟩
        | cons q L => cases eu
      | @cons x l1 l2 hp ih =>
        cases L with
        | nil => cases eu
        | cons q L =>
          rw [List.map_cons] at eu
          injection eu with e2 e3
          obtain ⟨L1, e4, p4⟩ := ih L e3
          exact ⟨q :: L1, by rw [List.map_cons, e2, e4], p4.cons q⟩
      | swap x y l =>
        match L, eu with
        | q :: r :: L, eu =>
          rw [List.map_cons, List.map_cons] at eu
          injection eu with e2 e3
          injection e3 with e3 e4
          exact ⟨r :: q :: L, by rw [List.map_cons, List.map_cons, e2, e3, e4], .swap ..⟩
        | [_], eu => cases eu
        | [], eu => cases eu
      | trans h1 h2 ih1 ih2 =>
        obtain ⟨L2, e2, p2⟩ := ih2 L eu
        obtain ⟨L1, e1, p1⟩ := ih1 L2 e2
        exact ⟨L1, e1, p1.trans p2⟩
    exact gen L _ vs rfl pm
  have n1 : vs.length = L.length := by rw [e1, List.length_map, p1.length_eq]
  have small : vs.length ≤ sizeLine := by rw [sizeLine_eq]; omega
  refine wpAny_bind (wpAny_newList ?_ small)
  have oL : (s1.heap.push (seqObj "list" vs.toArray 0)).get? s1.heap.objs.size = some (seqObj "list" vs.toArray 0) := Heap.get?_push_size _ rfl
  let enc : Addr × List Int → PyData := fun q => .tuple [.int (pr q).1, .int (pr q).2]
  have reads : ∀ q ∈ L, ∃ as, Reads (s1.heap.push (seqObj "list" vs.toArray 0)) (.ref q.1) (enc q) as ∧ s1.heap.objs.size ∉ as := fun q hq => by
    obtain ⟨ob, its, n, x1, x2, x3, x4⟩ := R.tup q hq
    have x5 := ints_of_items x4
    rw [pr_of (h2 q hq)] at x5
    have lt := Heap.lt_size x1
    have y1 := Heap.get?_push_of_some (seqObj "list" vs.toArray 0) (k1 _ _ x1)
    obtain ⟨l, el⟩ : ∃ l, its.toList = l := ⟨_, rfl⟩
    rw [el] at x5
    have ei : its = l.toArray := by rw [← el]
    subst ei
    match l, x5 with
    | [.int _ t1, .int _ t2], .cons _ _ (.cons _ _ .nil) =>
      refine ⟨_, Reads.tuple y1 x2 x3 (.cons (.int _ _) (.cons (.int _ _) .nil)), fun z => ?_⟩
      have z2 : s1.heap.objs.size = q.1 := by simpa using z
      exact absurd (Nat.lt_of_lt_of_le lt hz) (by rw [z2]; exact Nat.lt_irrefl _)
  have each : ∀ l : List (Addr × List Int), (∀ q ∈ l, q ∈ L) → PySem.W.EachIs (fun (v : Value) (q : Addr × List Int) => v = .ref q.1) (l.map fun q => Value.ref q.1) l ∧
      PySem.W.EachIs (fun v q => ∃ as, Reads (s1.heap.push (seqObj "list" vs.toArray 0)) v (enc q) as ∧ s1.heap.objs.size ∉ as) (l.map fun q => Value.ref q.1) l := by
    intro l
    induction l with
    | nil => intro _; exact ⟨.nil, .nil⟩
    | cons q l ih =>
      intro h
      obtain ⟨i1, i2⟩ := ih fun r hr => h r (List.mem_cons_of_mem _ hr)
      exact ⟨.cons rfl i1, .cons (reads q (h q List.mem_cons_self)) i2⟩
  obtain ⟨c1, c2⟩ := each L1 fun q hq => p1.mem_iff.mp hq
  rw [← e1] at c1 c2
  refine wpAny_bind (wpAny_holding (PySem.W.list_sort_data (s := { s1 with heap := s1.heap.push (seqObj "list" vs.toArray 0) }) (enc := enc) oL c1 c2 (.of fun _ _ => rfl) (.tuples fun b => ⟨_, _, rfl⟩) (by rw [p1.length_eq, sizeLine_eq]; omega)
    (fun b _ => by show A.in1.units + 1 + 1 < cLine; show A.units + 1 + 1 + 1 < cLine; omega) fun out a1 a2 => ?_))
  obtain ⟨c, hc⟩ := sortedHeap_at (vs := vs) (out := out.toArray) oL
  have eo : out = (L1.mergeSort (PySem.W.dataLe false enc)).map fun q => Value.ref q.1 := by
    revert a2
    generalize L1.mergeSort (PySem.W.dataLe false enc) = M
    intro a2
    clear hc a1
    induction a2 with
    | nil => rfl
    | cons h t ih => rw [List.map_cons, ← ih, h]
  have pM : (L1.mergeSort (PySem.W.dataLe false enc)).Perm L := (List.mergeSort_perm _ _).trans p1
  have pw : (L1.mergeSort (PySem.W.dataLe false enc)).Pairwise le2 := by
    have hle : PySem.W.dataLe false enc = fun p q => decide ((pr p).1 < (pr q).1 ∨ ((pr p).1 = (pr q).1 ∧ (pr p).2 ≤ (pr q).2)) :=
      PySem.W.dataLe_ii (fun q => (pr q).1) (fun q => (pr q).2)
    rw [hle]
    refine List.Pairwise.imp (fun {q r} h => ?_) (List.pairwise_mergeSort (fun p q r h1 h2 => ?_) (fun p q => ?_) L1)
    · have h := of_decide_eq_true h
      unfold le2 llt
      exact decide_eq_false (by omega)
    · have h1 := of_decide_eq_true h1
      have h2 := of_decide_eq_true h2
      exact decide_eq_true (by omega)
    · rw [Bool.or_eq_true, decide_eq_true_eq, decide_eq_true_eq]
      omega
  refine wpAny_pure ⟨_, rfl, hQ _ s1.heap.objs.size out.toArray c (L1.mergeSort (PySem.W.dataLe false enc)) (fun b u e => ?_) g1 o1 hz hc eo pM pw⟩
  have e5 := k1 b u e
  have lt5 := Heap.lt_size e5
  show (sortedHeap (s1.heap.push (seqObj "list" vs.toArray 0)) s1.heap.objs.size vs out.toArray).get? b = some u
  rw [sortedHeap_old (Nat.ne_of_lt lt5) (by rw [size_push']; exact Nat.lt_succ_of_lt lt5)]
  exact Heap.get?_push_of_some _ e5
end
section
variable {X : Cx}
def rSortedS2 (K : PySem.W.Frag) (P : Program) (w : World) : List V → Hp → VK → Prop := fun vs H Q => ∃ (a : Addr) (L : List (Addr × List Int)),
  vs = [V.ref a] ∧ H a = some (SetTO P w a L) ∧ (∀ p ∈ L, SqT K H p.1 (p.2.map V.int)) ∧ (∀ p ∈ L, p.2.length = 2) ∧
  ∀ L' : List (Addr × List Int), L'.Perm L → (L'.map (·.2)).Nodup → L'.Pairwise le2 → New H (.lst (L'.map fun q => V.ref q.1)) Q
theorem cr_sortedS2 (hc : X.calm = true) (hu : X.A.units + 64 < cLine) : CallR X (.builtin "sorted") (rSortedS2 X.K X.prog X.w) := by
  intro pins s σ H vs us Q I r ⟨a, L, e, ha, hk, h2, q⟩
  subst e
  obtain ⟨es, ep, t, R⟩ := SetT0.full (I.hok a _ ha).1 fun p hp => I.isT (hk p hp)
  rw [Vals.ref1 r]
  refine sorted_set2 R (I.ok.hd hc) h2 hu fun s' p out c L' k g o hp hg hout pm pw => ?_
  have few : L'.length < 64 := by rw [pm.length_eq]; exact R.few
  have len : (L'.map fun q => V.ref q.1).length ≤ sizeLine := by rw [List.length_map, sizeLine_eq]; omega
  have hn : H p = none := I.hok.fresh hp
  have hv : Vals (L'.map fun q => V.ref q.1) out.toList := by rw [hout]; exact vals_of_refs L'
  have J : Inv X pins σ (upd H p (.lst (L'.map fun q => V.ref q.1))) { s with heap := s'.heap, gens := s'.gens, drawn := s'.drawn, toks := s'.toks } :=
    I.call (ch := []) (Un.laid k hp hn) (I.hok.laid k hp ⟨len, out.toList, c, hv, hg⟩) (by rw [g]; exact I.bare) (fun _ z => nomatch z)
  have e : s' = { s with heap := s'.heap, gens := s'.gens, drawn := s'.drawn, toks := s'.toks } := by
    cases s'
    cases s
    cases o
    rfl
  rw [e]
  exact ⟨.ref p, _, J, rfl, (q L' pm ((pm.map (·.2)).nodup_iff.mpr R.nd) pw).go p hn⟩
def rSetN (K : PySem.W.Frag) (P : Program) (w : World) : List V → Hp → VK → Prop := fun xs H Q => ∃ (l : Addr) (ks : List (Addr × List Int)), xs = [V.ref l] ∧ SqL K H l (ks.map fun p => V.ref p.1) ∧
  (∀ p ∈ ks, SqT K H p.1 (p.2.map V.int)) ∧ ks.length < 64 ∧ ∀ a H' L, Same H H' → H a = none → H' a = some (SetTO P w a L) → (∀ p ∈ L, p ∈ ks) → (∀ p ∈ ks, p.2 ∈ L.map (·.2)) → Q (.ref a) H'
theorem cr_setN (hc : X.calm = true) (hu : X.A.units + 64 < cLine) : CallR X (.type "set") (rSetN X.K X.prog X.w) := by
  intro pins s σ H xs us Q I r ⟨l, ks, e, h1, h2, h3, q⟩
  exact cr_setOfT hc hu pins s σ H xs us Q I r ⟨l, ks, e, h1, h2, h3, fun a L n s1 s2 => q a _ L (same_new n) n upd_same s1 s2⟩
end
end Cl

namespace Cl
open PySem PySem.Spec PyProof.Rows L2 HT
/-! ### t[::-1] of a tuple -/
theorem rev_adjust (n : Nat) : Builtin.Slice.sliceAdjust none none (-1) (n : Int) = ((n : Int) - 1, -1) := rfl
theorem rev_places (n : Nat) : Builtin.Slice.slicePlaces ((n : Int) - 1) (-1) (-1) = n := by
  unfold Builtin.Slice.slicePlaces
  rw [if_neg (by decide)]
  split
  · rw [show ((n : Int) - 1 - -1 - 1) / (- -1) = (n : Int) - 1 by rw [show (- -1 : Int) = 1 by decide, Int.ediv_one]; omega]
    omega
  · omega
theorem fm_congr {α β : Type} {f g : α → Option β} : ∀ (l : List α), (∀ k ∈ l, f k = g k) → l.filterMap f = l.filterMap g
  | [], _ => rfl
  | x :: l, h => by
    rw [List.filterMap_cons, List.filterMap_cons, h x List.mem_cons_self, fm_congr l fun k hk => h k (List.mem_cons_of_mem _ hk)]
theorem rev_pick (xs : Array Value) : ((List.range xs.size).filterMap fun (k : Nat) => xs[((xs.size : Int) - 1 + (k : Int) * -1).toNat]?).toArray = xs.toList.reverse.toArray := by
  congr 1
  have e : (List.range xs.size).filterMap (fun (k : Nat) => xs[((xs.size : Int) - 1 + (k : Int) * -1).toNat]?) =
      ((List.range xs.size).map fun k => xs.size - 1 - k).filterMap (xs[·]?) := by
    rw [List.filterMap_map]
    refine fm_congr _ fun k hk => ?_
    have hk := List.mem_range.mp hk
    show xs[((xs.size : Int) - 1 + (k : Int) * -1).toNat]? = xs[xs.size - 1 - k]?
    congr 1
    omega
  rw [e, PySem.W.krv_range, List.filterMap_reverse, PySem.W.krv_all]
section
variable {prog : Program} {w : World} {A : Around} {E : Value → Shared → Prop} {s : Shared}
theorem getItem_tuple_rev {t sl : Addr} {items : Array Value} {tk : Tok} {Q : Value → Shared → Prop} (ht : IsTup s.heap t items)
    (hs : s.heap.IsSliceOf sl .none .none (.int (-1) tk)) (hsz : items.size ≤ sizeLine)
    (h : Q (.ref s.heap.objs.size) { s with heap := s.heap.push { cls := .type "tuple", data := .seq items.toList.reverse.toArray } }) :
    wpAny (model prog w) A (getItem (.ref t) (.ref sl)) Q E s := by
  obtain ⟨os, hos, hcs, hds⟩ := id hs
  have isS : s.TypeIs (.ref sl) "slice" := ⟨os, hos, hcs⟩
  have fits : sizeOk (.seq items.toList.reverse.toArray) := by
    show items.toList.reverse.toArray.size ≤ sizeLine
    rw [List.size_toArray, List.length_reverse, Array.length_toList]
    exact hsz
  unfold getItem
  try with_reducible refine wpAny_holding ?_
  first | refine wpAny_bind (wpAny_pure ?_) | skip
  refine wpAny_bind (wpAny_sequenceKey ht.typeIs (by decide) ?_)
  refine wpAny_bind (wpAny_callSpecial?_slot (name := Str.ofString "__getitem__") ht.typeIs PyProof.Rows.slot_tuple_getitem
    (wpAny_call_entry PyProof.Rows.slot_tuple_getitem ht.typeIs entry_tuple_getitem ?_ (args_tuple_getitem _ _)))
  show wpAny _ _ (Builtin.Tuple.tupleItemsOf (.ref t) >>= _) _ _ s
  refine wpAny_bind (tupleItemsOf_ ht ?_)
  refine wpAny_bind (wpAny_typeOf isS ?_)
  rw [if_pos (by decide)]
  have applied : ∀ (A' : Around) (E' : Value → Shared → Prop) (Q' : Int × Int × Nat → Shared → Prop), Q' ((items.size : Int) - 1, -1, items.size) s →
      wpAny (model prog w) A' (Builtin.Slice.sliceApplied (.ref sl) (pure (items.size : Int))) Q' E' s := fun A' E' Q' q => by
    unfold Builtin.Slice.sliceApplied Builtin.Slice.sliceFields
    refine wpAny_bind (wpAny_bind (wpAny_field hos hds (x := .none) rfl (wpAny_bind (wpAny_field hos hds (x := .none) rfl (wpAny_bind (wpAny_field hos hds (x := .int (-1) tk) rfl (wpAny_pure ?_)))))))
    refine wpAny_bind (slicePart_ (.int (-1) tk) ?_)
    show wpAny _ _ (if ((-1 : Int) == 0) = true then _ else _) _ _ s
    rw [if_neg (by decide)]
    refine wpAny_bind (slicePart_ .none (wpAny_bind (slicePart_ .none (wpAny_bind (wpAny_pure ?_)))))
    show wpAny _ _ (match Builtin.Slice.sliceAdjust none none (-1) (items.size : Int) with | (lo, hi) => pure (lo, (-1 : Int), Builtin.Slice.slicePlaces lo hi (-1))) _ _ s
    rw [rev_adjust]
    show wpAny _ _ (pure ((items.size : Int) - 1, (-1 : Int), Builtin.Slice.slicePlaces ((items.size : Int) - 1) (-1) (-1))) _ _ s
    rw [rev_places]
    exact wpAny_pure q
  refine wpAny_bind (applied _ _ _ ?_)
  have notw : ¬ ((((items.size : Int) - 1) == 0 && (-1 : Int) == 1 && items.size == items.size) = true) := by
    rw [show ((-1 : Int) == 1) = false by decide, Bool.and_false, Bool.false_and]
    decide
  show wpAny _ _ (if (((items.size : Int) - 1) == 0 && (-1 : Int) == 1 && items.size == items.size) = true then _ else _) _ _ s
  rw [if_neg notw, rev_pick]
  first
    | exact wpAny_bind (m := Builtin.Tuple.tupleExact _) (wpAny_newObj_type (wpAny_pure ⟨_, rfl, wpAny_pure h⟩) fits)
    | exact wpAny_bind (m := Builtin.Tuple.tupleExact _) (wpAny_newObj_type (wpAny_bind (wpAny_pure (wpAny_pure ⟨_, rfl, wpAny_pure h⟩))) fits)
    | exact wpAny_bind (wpAny_bind (m := Builtin.Tuple.tupleExact _) (wpAny_newObj_type (wpAny_pure (wpAny_pure ⟨_, rfl, wpAny_pure h⟩)) fits))
    | exact wpAny_bind (wpAny_bind (m := Builtin.Tuple.tupleExact _) (wpAny_newObj_type (wpAny_pure ⟨_, rfl, wpAny_pure h⟩) fits))
end
section
variable {X : Cx} {e : Expr} {te : TE}
def tRevT (K : PySem.W.Frag) (te : TE) : TE := fun σ H Q => te σ H fun x H1 => ∃ a xs, x = .ref a ∧ SqT K H1 a xs ∧ New H1 (.tup xs.reverse) Q
theorem pe_revT {p0 p1 p2 pos : Pos} {j : Nat} (he : PE X e te) :
    PE X (.Subscript e (.Slice none none (some (.UnaryOp .USub (.Constant (.int 1) j p0) p1)) p2) pos) (tRevT X.K te) := by
  constructor
  intro pins s σ H Q I h
  refine Subscript_ (thn (he.run pins s σ H _ I h) fun v s1 ⟨x, H1, I1, r1, a, xs, hx, hl, q⟩ => ?_)
  subst hx
  cases r1
  refine wpAny_Slice ?_
  rw [evalPart_none]
  refine wpAny_pure ?_
  refine wpAny_pure ?_
  rw [evalPart_some]
  have neg : PE X (.UnaryOp .USub (.Constant (.int 1) j p0) p1) _ := pe_un un_neg pe_int
  refine thn (neg.run pins s1 σ H1 (fun y H2 => y = .int (-1) ∧ H2 = H1) I1 ⟨1, rfl, rfl, rfl⟩) fun u s2 ⟨y, H2, I2, ry, hy, hH⟩ => ?_
  subst hy hH
  obtain ⟨t, rfl⟩ := ry
  have I4 : Inv X pins σ H2 { s2 with heap := s2.heap.push { cls := .type "slice", data := .fields #[.none, .none, .int (-1) t] } } :=
    I2.kept (t' := s2.toks) fun b ob z => Heap.get?_push_of_some _ z
  obtain ⟨its, r, ht, hz⟩ := I4.tuple hl
  have nl := r.length
  refine tail_any ht.typeIs PyProof.Rows.slot_tuple_getitem.lookup ?_ (by with_unfolding_all rfl)
  refine getItem_tuple_rev ht (Heap.IsSliceOf.new ..) (by rw [List.size_toArray] <;> omega) ?_
  refine ⟨.ref _, _, I4.laid (t' := s2.toks) (o := .tup xs.reverse) (fun b ob z => Heap.get?_push_of_some _ z) (Nat.le_refl _) ?_, rfl, q.go _ (I4.hok.fresh (Nat.le_refl _))⟩
  exact ⟨by rw [List.length_reverse]; exact hz, _, valsRev r, IsTup.new _ _⟩
end

/-! ### more rules that hand on a new object -/
section
variable {X : Cx}
def rCatTN (K : PySem.W.Frag) : R2 := fun x y H Q => ∃ a b xs ys, x = .ref a ∧ y = .ref b ∧ SqT K H a xs ∧ SqT K H b ys ∧ xs ≠ [] ∧ ys ≠ [] ∧
  xs.length + ys.length ≤ sizeLine ∧ New H (.tup (xs ++ ys)) Q
theorem op_catTN : OpR X (binaryOp .Add) (rCatTN X.K) := fun pins s σ H x y v u Q I rx ry ⟨a, b, xs, ys, h1, h2, h3, h4, h5, h6, h7, q⟩ =>
  op_catT pins s σ H x y v u Q I rx ry ⟨a, b, xs, ys, h1, h2, h3, h4, h5, h7, fun z => absurd z h6, fun _ => q.go⟩
def rCatLN : R2 := fun x y H Q => ∃ l b xs zs, x = .ref l ∧ y = .ref b ∧ H l = some (.lst xs) ∧ H b = some (.lst zs) ∧ xs.length + zs.length ≤ sizeLine ∧ New H (.lst (xs ++ zs)) Q
theorem op_catLN : OpR X (binaryOp .Add) rCatLN := fun pins s σ H x y v u Q I rx ry ⟨l, b, xs, zs, h1, h2, h3, h4, h5, q⟩ =>
  op_cat pins s σ H x y v u Q I rx ry ⟨l, b, xs, zs, h1, h2, h3, h4, h5, q.go⟩
theorem call_tuple_ofN : CallR X (.type "tuple") (fun xs H Q => ∃ p ys, xs = [.ref p] ∧ SqL X.K H p ys ∧ New H (.tup ys) Q) :=
  fun pins s σ H xs us Q I r ⟨p, ys, h1, h2, q⟩ => call_tuple_of pins s σ H xs us Q I r ⟨p, ys, h1, .inl ⟨h2, q.go⟩⟩
end
end Cl

namespace Cl
open PySem PySem.Spec PyProof.Rows L2
/-! ### what two lines have in common: the mathematics -/
abbrev Pt := Int × Int
abbrev Ln := Pt × Pt
abbrev S3 := Int × Int × Int
def trn (p q : Pt) : Int := p.1 * q.2 - p.2 * q.1
def less (p q : Pt) : Pt := (p.1 - q.1, p.2 - q.2)
def sp3 (n m d : Int) : S3 := (n / spP n m d, m / spP n m d, d / spP n m d)
theorem sp3_scale {n m d t : Int} (ht : 0 < t) (hd : 0 < d) : sp3 (n * t) (m * t) (d * t) = sp3 n m d := by
  have hdt : 0 < d * t := Int.mul_pos hd ht
  have e : spP (n * t) (m * t) (d * t) = spP n m d * t := by
    unfold spP gpar
    rw [if_neg (by omega), if_neg (by omega), Int.gcd_mul_right]
    have c : (((Int.gcd n m * t.natAbs : Nat)) : Int) = (Int.gcd n m : Nat) * t := by
      rw [Int.natCast_mul, Int.natAbs_of_nonneg (by omega)]
    rw [c, Int.gcd_mul_right, Int.natCast_mul, Int.natAbs_of_nonneg (by omega)]
  unfold sp3
  rw [e, Int.mul_ediv_mul_of_pos_left _ _ ht, Int.mul_ediv_mul_of_pos_left _ _ ht, Int.mul_ediv_mul_of_pos_left _ _ ht]
/-- the shares and their bottom, the bottom above nought -/
def kfs (l r : Ln) : Int := if trn (less l.2 l.1) (less r.2 r.1) < 0 then -1 else 1
def klm (l r : Ln) : Int × Int × Int :=
  (trn (less r.1 l.1) (less r.2 r.1) * kfs l r, trn (less r.1 l.1) (less l.2 l.1) * kfs l r, trn (less l.2 l.1) (less r.2 r.1) * kfs l r)
def acr (l r : Ln) : List S3 :=
  let t := klm l r
  if (0 ≤ t.1 ∧ t.1 ≤ t.2.2) ∧ (0 ≤ t.2.1 ∧ t.2.1 ≤ t.2.2) then
    [sp3 (t.2.2 * l.1.1 + t.1 * (l.2.1 - l.1.1)) (t.2.2 * l.1.2 + t.1 * (l.2.2 - l.1.2)) t.2.2] else []
def lo (l r : Ln) : Pt := mx (mn l.1 l.2) (mn r.1 r.2)
def hi (l r : Ln) : Pt := mn (mx l.1 l.2) (mx r.1 r.2)
def alo (l r : Ln) : List S3 :=
  if llt (hi l r) (lo l r) then [] else if lo l r = hi l r then [((lo l r).1, (lo l r).2, 1)] else [((lo l r).1, (lo l r).2, 1), ((hi l r).1, (hi l r).2, 1)]
def cmn (l r : Ln) : List S3 :=
  if trn (less l.2 l.1) (less r.2 r.1) ≠ 0 then acr l r else if trn (less l.2 l.1) (less r.1 l.1) ≠ 0 then [] else alo l r
def rev (l : Ln) : Ln := (l.2, l.1)

theorem trn_neg (p q : Pt) : trn p q = -trn q p := by
  unfold trn; grind
theorem mn_comm (p q : Pt) : mn p q = mn q p := by
  obtain ⟨a, b⟩ := p
  obtain ⟨c, d⟩ := q
  unfold mn llt
  by_cases h1 : c < a ∨ (c = a ∧ d < b) <;> by_cases h2 : a < c ∨ (a = c ∧ b < d) <;> simp [h1, h2] <;> omega
theorem mx_comm (p q : Pt) : mx p q = mx q p := by
  obtain ⟨a, b⟩ := p
  obtain ⟨c, d⟩ := q
  unfold mx llt
  by_cases h1 : c < a ∨ (c = a ∧ d < b) <;> by_cases h2 : a < c ∨ (a = c ∧ b < d) <;> simp [h1, h2] <;> omega
theorem lo_swap (l r : Ln) : lo r l = lo l r := mx_comm ..
theorem hi_swap (l r : Ln) : hi r l = hi l r := mn_comm ..
theorem alo_swap (l r : Ln) : alo r l = alo l r := by unfold alo; rw [lo_swap, hi_swap]
theorem alo_rev (l r : Ln) : alo (rev l) r = alo l r := by
  unfold alo lo hi rev
  rw [mn_comm l.2, mx_comm l.2]

theorem klm_swap (l r : Ln) (h : trn (less l.2 l.1) (less r.2 r.1) ≠ 0) : klm r l = ((klm l r).2.1, (klm l r).1, (klm l r).2.2) := by
  have e := trn_neg (less r.2 r.1) (less l.2 l.1)
  have ek : kfs r l = -kfs l r := by
    unfold kfs
    rw [e]
    split <;> split <;> omega
  unfold klm
  rw [ek]
  unfold trn less
  refine Prod.ext ?_ (Prod.ext ?_ ?_) <;> simp only <;> grind
theorem klm_pos (l r : Ln) (h : trn (less l.2 l.1) (less r.2 r.1) ≠ 0) : 0 < (klm l r).2.2 := by
  show 0 < trn (less l.2 l.1) (less r.2 r.1) * kfs l r
  unfold kfs
  split <;> omega
theorem acr_swap (l r : Ln) (h : trn (less l.2 l.1) (less r.2 r.1) ≠ 0) : acr r l = acr l r := by
  unfold acr
  rw [klm_swap l r h]
  simp only
  have e1 : (klm l r).2.2 * r.1.1 + (klm l r).2.1 * (r.2.1 - r.1.1) = (klm l r).2.2 * l.1.1 + (klm l r).1 * (l.2.1 - l.1.1) := by
    unfold klm trn less
    simp only
    grind
  have e2 : (klm l r).2.2 * r.1.2 + (klm l r).2.1 * (r.2.2 - r.1.2) = (klm l r).2.2 * l.1.2 + (klm l r).1 * (l.2.2 - l.1.2) := by
    unfold klm trn less
    simp only
    grind
  rw [e1, e2]
  split <;> split <;> first | rfl | (exfalso; omega)
theorem klm_rev (l r : Ln) (h : trn (less l.2 l.1) (less r.2 r.1) ≠ 0) : klm (rev l) r = ((klm l r).2.2 - (klm l r).1, (klm l r).2.1, (klm l r).2.2) := by
  have e : trn (less l.1 l.2) (less r.2 r.1) = -trn (less l.2 l.1) (less r.2 r.1) := by unfold trn less; grind
  have ek : kfs (rev l) r = -kfs l r := by
    unfold kfs rev
    simp only
    rw [e]
    split <;> split <;> omega
  unfold klm
  rw [ek]
  unfold trn less rev
  refine Prod.ext ?_ (Prod.ext ?_ ?_) <;> simp only <;> grind
theorem acr_rev (l r : Ln) (h : trn (less l.2 l.1) (less r.2 r.1) ≠ 0) : acr (rev l) r = acr l r := by
  unfold acr
  rw [klm_rev l r h]
  simp only
  have e1 : (klm l r).2.2 * (rev l).1.1 + ((klm l r).2.2 - (klm l r).1) * ((rev l).2.1 - (rev l).1.1) = (klm l r).2.2 * l.1.1 + (klm l r).1 * (l.2.1 - l.1.1) := by
    unfold rev
    grind
  have e2 : (klm l r).2.2 * (rev l).1.2 + ((klm l r).2.2 - (klm l r).1) * ((rev l).2.2 - (rev l).1.2) = (klm l r).2.2 * l.1.2 + (klm l r).1 * (l.2.2 - l.1.2) := by
    unfold rev
    grind
  rw [e1, e2]
  split <;> split <;> first | rfl | (exfalso; omega)
theorem cmn_rev (l r : Ln) : cmn (rev l) r = cmn l r := by
  have e : trn (less l.1 l.2) (less r.2 r.1) = -trn (less l.2 l.1) (less r.2 r.1) := by unfold trn less; grind
  have e2 : trn (less l.1 l.2) (less r.1 l.2) = -trn (less l.2 l.1) (less r.1 l.1) := by unfold trn less; grind
  unfold cmn
  show (if trn (less l.1 l.2) (less r.2 r.1) ≠ 0 then acr (rev l) r else if trn (less l.1 l.2) (less r.1 l.2) ≠ 0 then [] else alo (rev l) r) = _
  rw [e, e2, alo_rev]
  by_cases h : trn (less l.2 l.1) (less r.2 r.1) = 0
  · rw [h]; by_cases h2 : trn (less l.2 l.1) (less r.1 l.1) = 0 <;> simp [h2]
  · rw [if_pos (by omega), if_pos h, acr_rev l r h]
theorem par (w u f : Pt) (hw : w ≠ (0, 0)) (h1 : trn w u = 0) (h2 : trn w f = 0) : trn u f = 0 := by
  obtain ⟨w1, w2⟩ := w
  obtain ⟨u1, u2⟩ := u
  obtain ⟨f1, f2⟩ := f
  unfold trn at *
  simp only at *
  by_cases h : w1 = 0
  · have h0 : w2 ≠ 0 := fun z => hw (by rw [h, z])
    have : w2 * (u1 * f2 - u2 * f1) = 0 := by grind
    rcases Int.mul_eq_zero.mp this with z | z
    · exact absurd z h0
    · exact z
  · have : w1 * (u1 * f2 - u2 * f1) = 0 := by grind
    rcases Int.mul_eq_zero.mp this with z | z
    · exact absurd z h
    · exact z
theorem less_ne {p q : Pt} (h : q ≠ p) : less p q ≠ (0, 0) := fun z => h (by
  obtain ⟨a, b⟩ := p
  obtain ⟨c, d⟩ := q
  unfold less at z
  injection z with z1 z2
  simp only at z1 z2
  exact Prod.ext (by simp only; omega) (by simp only; omega))
theorem cmn_swap (l r : Ln) (hl : l.1 ≠ l.2) (hr : r.1 ≠ r.2) : cmn r l = cmn l r := by
  unfold cmn
  have e := trn_neg (less r.2 r.1) (less l.2 l.1)
  by_cases h : trn (less l.2 l.1) (less r.2 r.1) = 0
  · rw [e, h, alo_swap]
    have e3 : trn (less r.2 r.1) (less l.1 r.1) = 0 ↔ trn (less l.2 l.1) (less r.1 l.1) = 0 := by
      have n1 : ∀ p : Pt, trn p (less l.1 r.1) = -trn p (less r.1 l.1) := fun p => by unfold trn less; grind
      rw [n1]
      constructor
      · intro z
        exact par _ _ _ (less_ne hr) (by rw [e, h]; rfl) (by omega)
      · intro z
        have := par _ _ _ (less_ne hl) h z
        omega
    by_cases h2 : trn (less l.2 l.1) (less r.1 l.1) = 0
    · simp [h2, e3.mpr h2]
    · simp [h2, show ¬ trn (less r.2 r.1) (less l.1 r.1) = 0 from fun z => h2 (e3.mp z)]
  · rw [if_pos (by omega), if_pos h, acr_swap l r h]
theorem cmn_rev2 (l r : Ln) (hl : l.1 ≠ l.2) (hr : r.1 ≠ r.2) : cmn l (rev r) = cmn l r := by
  rw [← cmn_swap l (rev r) hl (fun z => hr z.symm), cmn_rev, cmn_swap l r hl hr]

/-! ### along one straight line: the first and the last of what lies in both -/
def ple (p q : Pt) : Prop := llt q p = false
theorem ple_iff {p q : Pt} : ple p q ↔ ¬ (q.1 < p.1 ∨ (q.1 = p.1 ∧ q.2 < p.2)) := by
  unfold ple llt
  exact decide_eq_false_iff_not
theorem ple_refl (p : Pt) : ple p p := ple_iff.mpr (by omega)
theorem ple_trans {p q r : Pt} (h1 : ple p q) (h2 : ple q r) : ple p r := by
  rw [ple_iff] at *
  omega
theorem ple_antisymm {p q : Pt} (h1 : ple p q) (h2 : ple q p) : p = q := by
  rw [ple_iff] at *
  exact Prod.ext (by omega) (by omega)
theorem ple_of {p q : Pt} (h : llt p q = true) : ple p q := by
  have h := of_decide_eq_true h
  rw [ple_iff]
  omega
theorem mn_or (p q : Pt) : (mn p q = p ∨ mn p q = q) ∧ ple (mn p q) p ∧ ple (mn p q) q := by
  unfold mn
  cases h : llt q p with
  | true => exact ⟨.inr rfl, ple_of h, ple_refl _⟩
  | false => exact ⟨.inl rfl, ple_refl _, h⟩
theorem mx_or (p q : Pt) : (mx p q = p ∨ mx p q = q) ∧ ple p (mx p q) ∧ ple q (mx p q) := by
  unfold mx
  cases h : llt p q with
  | true => exact ⟨.inr rfl, ple_of h, ple_refl _⟩
  | false => exact ⟨.inl rfl, ple_refl _, h⟩
def within (p : Pt) (r : Ln) : Prop := ple (mn r.1 r.2) p ∧ ple p (mx r.1 r.2)
def inBoth (l r : Ln) (p : Pt) : Prop := ((p = l.1 ∨ p = l.2) ∧ within p r) ∨ ((p = r.1 ∨ p = r.2) ∧ within p l)
theorem self_in {p : Pt} {l : Ln} (h : p = l.1 ∨ p = l.2) : within p l := by
  obtain ⟨_, a2, a3⟩ := mn_or l.1 l.2
  obtain ⟨_, b2, b3⟩ := mx_or l.1 l.2
  rcases h with rfl | rfl
  · exact ⟨a2, b2⟩
  · exact ⟨a3, b3⟩
theorem inBoth_two {l r : Ln} {p : Pt} (h : inBoth l r p) : within p l ∧ within p r := by
  rcases h with ⟨h1, h2⟩ | ⟨h1, h2⟩
  · exact ⟨self_in h1, h2⟩
  · exact ⟨h2, self_in h1⟩
theorem inBoth_mid {l r : Ln} {p : Pt} (h : inBoth l r p) : ple (lo l r) p ∧ ple p (hi l r) := by
  obtain ⟨⟨a1, a2⟩, b1, b2⟩ := inBoth_two h
  unfold lo hi
  constructor
  · rcases (mx_or (mn l.1 l.2) (mn r.1 r.2)).1 with z | z <;> rw [z] <;> assumption
  · rcases (mn_or (mx l.1 l.2) (mx r.1 r.2)).1 with z | z <;> rw [z] <;> assumption
theorem lo_in {l r : Ln} (h : ple (lo l r) (hi l r)) : inBoth l r (lo l r) := by
  have hl : ple (lo l r) (mx l.1 l.2) := ple_trans h (mn_or _ _).2.1
  have hr : ple (lo l r) (mx r.1 r.2) := ple_trans h (mn_or _ _).2.2
  obtain ⟨c, d1, d2⟩ := mx_or (mn l.1 l.2) (mn r.1 r.2)
  rcases c with z | z
  · refine .inl ⟨?_, d2, hr⟩
    show lo l r = _ ∨ lo l r = _
    unfold lo; rw [z]; exact (mn_or _ _).1
  · refine .inr ⟨?_, d1, hl⟩
    show lo l r = _ ∨ lo l r = _
    unfold lo; rw [z]; exact (mn_or _ _).1
theorem hi_in {l r : Ln} (h : ple (lo l r) (hi l r)) : inBoth l r (hi l r) := by
  have hl : ple (mn l.1 l.2) (hi l r) := ple_trans (mx_or _ _).2.1 h
  have hr : ple (mn r.1 r.2) (hi l r) := ple_trans (mx_or _ _).2.2 h
  obtain ⟨c, d1, d2⟩ := mn_or (mx l.1 l.2) (mx r.1 r.2)
  rcases c with z | z
  · refine .inl ⟨?_, hr, d2⟩
    show hi l r = _ ∨ hi l r = _
    unfold hi; rw [z]; exact (mx_or _ _).1
  · refine .inr ⟨?_, hl, d1⟩
    show hi l r = _ ∨ hi l r = _
    unfold hi; rw [z]; exact (mx_or _ _).1
def one3 (p : Pt) : S3 := (p.1, p.2, 1)
theorem along_due (l r : Ln) (T : List Pt) (hs : T.Pairwise ple) (nd : T.Nodup) (mem : ∀ p, p ∈ T ↔ inBoth l r p) :
    (T.take 1 ++ (T.drop 1).drop ((T.drop 1).length - 1)).map one3 = alo l r := by
  unfold alo
  cases hh : llt (hi l r) (lo l r) with
  | true =>
    have : T = [] := by
      refine List.eq_nil_iff_forall_not_mem.mpr fun p hp => ?_
      obtain ⟨a, b⟩ := inBoth_mid ((mem p).mp hp)
      have z : ple (lo l r) (hi l r) := ple_trans a b
      unfold ple at z
      rw [hh] at z
      cases z
    subst this
    rfl
  | false =>
    have hle : ple (lo l r) (hi l r) := hh
    have m1 := (mem _).mpr (lo_in hle)
    have m2 := (mem _).mpr (hi_in hle)
    cases T with
    | nil => cases m1
    | cons a t =>
      obtain ⟨p1, p2⟩ := List.pairwise_cons.mp hs
      obtain ⟨n1, n2⟩ := List.nodup_cons.mp nd
      have ha : a = lo l r := by
        have b := (inBoth_mid ((mem a).mp List.mem_cons_self)).1
        rcases List.mem_cons.mp m1 with z | z
        · exact z.symm
        · exact ple_antisymm (p1 _ z) b
      subst ha
      rw [if_neg (by decide)]
      rcases List.eq_nil_or_concat t with rfl | ⟨t', b, rfl⟩
      · have : hi l r = lo l r := by simpa using m2
        rw [if_pos this.symm]
        rfl
      · have hb : b = hi l r := by
          have c := (inBoth_mid ((mem b).mp (List.mem_cons_of_mem _ (by simp)))).2
          refine ple_antisymm c ?_
          rcases List.mem_cons.mp m2 with z | z
          · rw [z]; exact p1 b (by simp)
          · rcases List.mem_append.mp (by simpa using z : hi l r ∈ t' ++ [b]) with z | z
            · rw [List.concat_eq_append] at p2
              exact (List.pairwise_append.mp p2).2.2 _ z _ (by simp)
            · rw [List.mem_singleton.mp z]; exact ple_refl _
        have ne : lo l r ≠ hi l r := fun z => n1 (by rw [z, ← hb]; simp)
        rw [if_neg ne]
        subst hb
        simp [one3]
end Cl

namespace Cl
open PySem PySem.Spec PyProof.Rows L2
/-! ### lines, spots and tuples of them where they stand -/
def AtL (K : PySem.W.Frag) (H : Hp) (v : V) (l : Ln) : Prop := ∃ a u w, v = .ref a ∧ SqT K H a [u, w] ∧ At2 K H u l.1 ∧ At2 K H w l.2
def At3 (K : PySem.W.Frag) (H : Hp) (v : V) (s : S3) : Prop := ∃ a, v = .ref a ∧ SqT K H a [.int s.1, .int s.2.1, .int s.2.2]
inductive AllAt {α : Type} (R : V → α → Prop) : List V → List α → Prop
  | nil : AllAt R [] []
  | cons {v : V} {x : α} {vs : List V} {xs : List α} : R v x → AllAt R vs xs → AllAt R (v :: vs) (x :: xs)
def AtS (K : PySem.W.Frag) (H : Hp) (v : V) (ss : List S3) : Prop := ∃ a vs, v = .ref a ∧ SqT K H a vs ∧ AllAt (At3 K H) vs ss
def AtP (K : PySem.W.Frag) (H : Hp) (v : V) (ps : List Pt) : Prop := ∃ a vs, v = .ref a ∧ SqT K H a vs ∧ AllAt (At2 K H) vs ps
def BdP (p : Pt) : Prop := (-(2 ^ 60) < p.1 ∧ p.1 < 2 ^ 60) ∧ (-(2 ^ 60) < p.2 ∧ p.2 < 2 ^ 60)
def BdC (p : Pt) : Prop := (-(2 ^ 40) < p.1 ∧ p.1 < 2 ^ 40) ∧ (-(2 ^ 40) < p.2 ∧ p.2 < 2 ^ 40)
def BdL (l : Ln) : Prop := BdC l.1 ∧ BdC l.2
section
variable {K : PySem.W.Frag} {H H' : Hp} {v : V}
theorem AtL.same {l : Ln} (h : AtL K H v l) (s : Same H H') : AtL K H' v l := by
  obtain ⟨a, u, w, rfl, h1, h2, h3⟩ := h
  exact ⟨a, u, w, rfl, seT s h1, h2.same s, h3.same s⟩
theorem At3.same {t : S3} (h : At3 K H v t) (s : Same H H') : At3 K H' v t := by
  obtain ⟨a, rfl, h⟩ := h
  exact ⟨a, rfl, seT s h⟩
theorem AllAt.map {α : Type} {R R' : V → α → Prop} (f : ∀ v x, R v x → R' v x) : ∀ {vs : List V} {xs : List α}, AllAt R vs xs → AllAt R' vs xs
  | _, _, .nil => .nil
  | _, _, .cons h t => .cons (f _ _ h) (AllAt.map f t)
theorem AllAt.length {α : Type} {R : V → α → Prop} : ∀ {vs : List V} {xs : List α}, AllAt R vs xs → vs.length = xs.length
  | _, _, .nil => rfl
  | _, _, .cons _ t => by rw [List.length_cons, List.length_cons, t.length]
theorem AllAt.get {α : Type} {R : V → α → Prop} : ∀ {vs : List V} {xs : List α} {i : Nat} {v : V}, AllAt R vs xs → vs[i]? = some v → ∃ x, xs[i]? = some x ∧ R v x
  | _, _, 0, v, .cons h t, e => by cases e; exact ⟨_, rfl, h⟩
  | _, _, i + 1, v, .cons h t, e => AllAt.get t (i := i) e
theorem AllAt.app {α : Type} {R : V → α → Prop} : ∀ {vs ws : List V} {xs ys : List α}, AllAt R vs xs → AllAt R ws ys → AllAt R (vs ++ ws) (xs ++ ys)
  | _, _, _, _, .nil, h => h
  | _, _, _, _, .cons a t, h => .cons a (AllAt.app t h)
theorem AtS.same {ss : List S3} (h : AtS K H v ss) (s : Same H H') : AtS K H' v ss := by
  obtain ⟨a, vs, rfl, h1, h2⟩ := h
  exact ⟨a, vs, rfl, seT s h1, h2.map fun _ _ z => z.same s⟩
theorem AtP.same {ps : List Pt} (h : AtP K H v ps) (s : Same H H') : AtP K H' v ps := by
  obtain ⟨a, vs, rfl, h1, h2⟩ := h
  exact ⟨a, vs, rfl, seT s h1, h2.map fun _ _ z => z.same s⟩
def d3 (s : S3) : PyData := .tuple [.int s.1, .int s.2.1, .int s.2.2]
theorem AtS.dp {ss : List S3} (h : AtS K H v ss) : Dp K H v (.tuple (ss.map d3)) := by
  obtain ⟨a, vs, rfl, h1, h2⟩ := h
  refine .tup h1 ?_
  clear h1
  induction h2 with
  | nil => exact .nil
  | cons h t ih =>
    obtain ⟨b, rfl, h⟩ := h
    exact .cons (.tup h (.cons (.int _) (.cons (.int _) (.cons (.int _) .nil)))) ih
theorem AtL.rev {l : Ln} {a : Addr} {xs : List V} (h : AtL K H (.ref a) l) (h2 : SqT K H a xs) : True := trivial
end
theorem bd_less {p q : Pt} (h1 : BdC p) (h2 : BdC q) : BdP (less p q) := by
  unfold BdP BdC less at *
  simp only at *
  omega
theorem BdL.rev {l : Ln} (h : BdL l) : BdL (rev l) := ⟨h.2, h.1⟩
/-! ### promises of the program's defs -/
def spStep (K : PySem.W.Frag) : Sp := fun vs H Q _ => ∃ v l, vs = [v] ∧ AtL K H v l ∧ ∀ w H', Same H H' → At2 K H' w (less l.2 l.1) → Q w H'
def spTurn (K : PySem.W.Frag) : Sp := fun vs H Q _ => ∃ u v p q, vs = [u, v] ∧ At2 K H u p ∧ At2 K H v q ∧ BdP p ∧ Q (.int (trn p q)) H
def spSide (K : PySem.W.Frag) : Sp := fun vs H Q _ => ∃ u v l p, vs = [u, v] ∧ AtL K H u l ∧ At2 K H v p ∧ BdL l ∧ ∀ H', Same H H' → Q (.int (trn (less l.2 l.1) (less p l.1))) H'
def spSpotAt (K : PySem.W.Frag) : Sp := fun vs H Q _ => ∃ v l k m, vs = [v, .int k, .int m] ∧ AtL K H v l ∧ BdL l ∧ m ≠ 0 ∧ m.natAbs < 2 ^ 200 ∧
  ∀ w H', Same H H' → At3 K H' w (sp3 (m * l.1.1 + k * (l.2.1 - l.1.1)) (m * l.1.2 + k * (l.2.2 - l.1.2)) m) → Q w H'
def spTwo (K : PySem.W.Frag) (f : Ln → Ln → List S3) (C : Ln → Ln → Prop) : Sp := fun vs H Q _ => ∃ u v l r, vs = [u, v] ∧ AtL K H u l ∧ AtL K H v r ∧ BdL l ∧ BdL r ∧ C l r ∧
  ∀ w H', Same H H' → AtS K H' w (f l r) → Q w H'
theorem trn_lt {p q : Pt} (hp : BdP p) (hq : BdP q) : (trn p q).natAbs < 2 ^ 122 := by
  unfold BdP at *
  unfold trn
  have b : ∀ a b : Int, -(2 ^ 60) < a → a < 2 ^ 60 → -(2 ^ 60) < b → b < 2 ^ 60 → (a * b).natAbs < 2 ^ 120 := fun a b h1 h2 h3 h4 => wide_lt (a := 60) (b := 60) (by omega) (by omega)
  have b1 := b p.1 q.2 (by omega) (by omega) (by omega) (by omega)
  have b2 := b p.2 q.1 (by omega) (by omega) (by omega) (by omega)
  omega

section
variable {K : PySem.W.Frag} {H H' : Hp} {v : V} {d l : Addr}
theorem stT {a : Addr} {xs : List V} (S : Step d l H H') (D : Deck H d l) (h : SqT K H a xs) : SqT K H' a xs := by
  obtain ⟨ns, s, c, h1, h2, h3⟩ := D.ex
  rcases h with (h | ⟨o, h⟩) | h
  · exact .inl (.inl (S.tupH D h))
  · exact .inl (.inr ⟨o, S.at (ne_of h h1 (by intro z; cases z)) (ne_of h h2 (by intro z; cases z)) h⟩)
  · exact .inr h
theorem At2.step {p : Pt} (h : At2 K H v p) (S : Step d l H H') (D : Deck H d l) : At2 K H' v p := by
  obtain ⟨a, rfl, h⟩ := h
  exact ⟨a, rfl, stT S D h⟩
theorem AtL.step {r : Ln} (h : AtL K H v r) (S : Step d l H H') (D : Deck H d l) : AtL K H' v r := by
  obtain ⟨a, u, w, rfl, h1, h2, h3⟩ := h
  exact ⟨a, u, w, rfl, stT S D h1, h2.step S D, h3.step S D⟩
end
def BdN (B : Int) (p : Pt) : Prop := (-B ≤ p.1 ∧ p.1 ≤ B) ∧ (-B ≤ p.2 ∧ p.2 ≤ B)
def spUnlike (K : PySem.W.Frag) : Sp := fun vs H Q _ => ∃ u v p q, vs = [u, v] ∧ At2 K H u p ∧ At2 K H v q ∧
  ∀ w H' l, Same H H' → AtL K H' w l → l.1 = p → l.1 ≠ l.2 → (l.2 = q ∨ l.2 = (p.1 + 1, p.2)) → Q w H'
def spLess (K : PySem.W.Frag) : Sp := fun vs H Q _ => ∃ u v p q, vs = [u, v] ∧ At2 K H u p ∧ At2 K H v q ∧ ∀ w H', Same H H' → At2 K H' w (less p q) → Q w H'
def spLowest (K : PySem.W.Frag) : Sp := fun vs H Q _ => ∃ n m d : Int, vs = [.int n, .int m, .int d] ∧ 0 < d ∧ d.natAbs < 2 ^ 200 ∧ ∀ w H', Same H H' → At3 K H' w (sp3 n m d) → Q w H'
def spRight (K : PySem.W.Frag) : Sp := fun vs H Q _ => ∃ u v l r, vs = [u, v] ∧ AtL K H u l ∧ AtL K H v r ∧ BdL l ∧ BdL r ∧ l.1 ≠ l.2 ∧ r.1 ≠ r.2 ∧ ∀ H', Same H H' → Q (.bl true) H'
theorem gcd_fmod (a b : Int) (h : b ≠ 0) : Int.gcd b (a.fmod b) = Int.gcd a b := by
  have e : a.fmod b = a - b * a.fdiv b := Int.fmod_def a b
  rw [e, Int.gcd_comm a b, Int.sub_eq_add_neg, ← Int.mul_neg, Int.gcd_add_mul_left_right]
theorem fmod_small (a b : Int) (h : b ≠ 0) : (a.fmod b).natAbs < b.natAbs := by
  rcases Int.lt_or_gt_of_ne h with hb | hb
  · have e1 : (-a).fmod (-b) = -(a.fmod b) := Int.neg_fmod_neg ..
    have h1 := Int.fmod_nonneg_of_pos (-a) (show 0 < -b by omega)
    have h2 := Int.fmod_lt_of_pos (-a) (show 0 < -b by omega)
    omega
  · have h1 := Int.fmod_nonneg_of_pos a hb
    have h2 := Int.fmod_lt_of_pos a hb
    omega

/-! ### what a comprehension picks of two points -/
structure Sel (K : PySem.W.Frag) (H0 : Hp) (pts : List Pt) (r : Ln) (i : Nat) (ks : List (Addr × List Int)) : Prop where
  tup : ∀ q ∈ ks, SqT K H0 q.1 (q.2.map V.int) ∧ q.2.length = 2
  len : ks.length ≤ i
  mem : ∀ x, (∃ q ∈ ks, pr q = x) ↔ ∃ j, j < i ∧ pts[j]? = some x ∧ within x r
section
variable {K : PySem.W.Frag} {H0 : Hp} {pts : List Pt} {r : Ln} {i : Nat} {ks : List (Addr × List Int)} {pt : Pt} {c : Addr}
theorem Sel.nil : Sel K H0 pts r 0 [] := ⟨fun q h => (nomatch h), Nat.le_refl _, fun x => ⟨fun ⟨q, h, _⟩ => (nomatch h), fun ⟨j, h, _⟩ => absurd h (Nat.not_lt_zero _)⟩⟩
theorem Sel.keep (S : Sel K H0 pts r i ks) (h : pts[i]? = some pt) (w : within pt r) (hc : SqT K H0 c [.int pt.1, .int pt.2]) :
    Sel K H0 pts r (i + 1) (ks ++ [(c, [pt.1, pt.2])]) := by
  refine ⟨fun q hq => ?_, by rw [List.length_append]; exact Nat.add_le_add_right S.len 1, fun x => ⟨?_, ?_⟩⟩
  · rcases List.mem_append.mp hq with z | z
    · exact S.tup q z
    · rw [List.mem_singleton.mp z]; exact ⟨hc, rfl⟩
  · rintro ⟨q, hq, e⟩
    rcases List.mem_append.mp hq with z | z
    · obtain ⟨j, a, b⟩ := (S.mem x).mp ⟨q, z, e⟩
      exact ⟨j, by omega, b⟩
    · rw [List.mem_singleton.mp z] at e
      subst e
      exact ⟨i, by omega, h, w⟩
  · rintro ⟨j, hj, a, b⟩
    by_cases e : j = i
    · subst e
      rw [h] at a
      cases a
      exact ⟨_, List.mem_append.mpr (.inr (List.mem_singleton.mpr rfl)), rfl⟩
    · obtain ⟨q, z, e2⟩ := (S.mem x).mpr ⟨j, by omega, a, b⟩
      exact ⟨q, List.mem_append.mpr (.inl z), e2⟩
theorem Sel.drop (S : Sel K H0 pts r i ks) (h : pts[i]? = some pt) (w : ¬ within pt r) : Sel K H0 pts r (i + 1) ks := by
  refine ⟨S.tup, Nat.le_succ_of_le S.len, fun x => ⟨fun z => ?_, ?_⟩⟩
  · obtain ⟨j, a, b⟩ := (S.mem x).mp z
    exact ⟨j, by omega, b⟩
  · rintro ⟨j, hj, a, b⟩
    by_cases e : j = i
    · subst e
      rw [h] at a
      cases a
      exact absurd b w
    · exact (S.mem x).mpr ⟨j, by omega, a, b⟩
theorem Sel.two {p q : Pt} (S : Sel K H0 [p, q] r 2 ks) (x : Pt) : (∃ q ∈ ks, pr q = x) ↔ (x = p ∨ x = q) ∧ within x r := by
  rw [S.mem x]
  constructor
  · rintro ⟨j, hj, a, b⟩
    match j, hj, a with
    | 0, _, a => cases a; exact ⟨.inl rfl, b⟩
    | 1, _, a => cases a; exact ⟨.inr rfl, b⟩
  · rintro ⟨a | a, b⟩
    · exact ⟨0, by omega, by rw [a]; rfl, b⟩
    · exact ⟨1, by omega, by rw [a]; rfl, b⟩
end
theorem pr_ints {q : Addr × List Int} (h : q.2.length = 2) : q.2.map V.int = [.int (pr q).1, .int (pr q).2] := by
  rw [pr_of h]
  rfl
theorem nodup_pr {L : List (Addr × List Int)} (h : ∀ q ∈ L, q.2.length = 2) (nd : (L.map (·.2)).Nodup) : (L.map pr).Nodup := by
  have e : ∀ l : List (Addr × List Int), (∀ q ∈ l, q.2.length = 2) → l.map (·.2) = (l.map pr).map fun p : Pt => [p.1, p.2] := by
    intro l
    induction l with
    | nil => intro _; rfl
    | cons q l ih =>
      intro h
      rw [List.map_cons, List.map_cons, List.map_cons, ih fun r hr => h r (List.mem_cons_of_mem _ hr), pr_of (h q List.mem_cons_self)]
  rw [e L h] at nd
  exact List.Pairwise.of_map _ (fun _ _ hne z => hne (by rw [z])) nd
theorem cut_first (xs : List V) : cutV xs none (some 1) = xs.take 1 := by
  unfold cutV
  rw [HT.sIx_none, show HT.sIx xs.length xs.length (some 1) = min 1 xs.length from HT.sIx_nat _ _ 1, List.drop_zero, Nat.sub_zero]
  cases xs with
  | nil => rfl
  | cons x r => rw [List.length_cons, Nat.min_eq_left (by omega)]
theorem cut_rest (xs : List V) : cutV xs (some 1) none = xs.drop 1 := by
  unfold cutV
  rw [HT.sIx_none, show HT.sIx xs.length 0 (some 1) = min 1 xs.length from HT.sIx_nat _ _ 1]
  cases xs with
  | nil => rfl
  | cons x r =>
    rw [List.length_cons, Nat.min_eq_left (by omega)]
    show List.take (r.length + 1 - 1) r = r
    rw [Nat.add_sub_cancel, List.take_length]
theorem cut_last (xs : List V) : cutV xs (some (-1)) none = xs.drop (xs.length - 1) := by
  unfold cutV
  have e : HT.sIx xs.length 0 (some (-1)) = xs.length - 1 := by
    show (if (-1 : Int) < 0 then ((-1 : Int) + (xs.length : Int)).toNat else min (-1 : Int).toNat xs.length) = _
    rw [if_pos (by decide)]
    omega
  rw [HT.sIx_none, e]
  exact List.take_of_length_le (by rw [List.length_drop]; omega)

/-! ### the same rules within a comprehension, the written part named -/
section
variable {X : Cx} {K : PySem.W.Frag}
theorem op_le2k (hK : X.K = K) (hu : X.A.units + 64 < cLine) : OpR X (compareOp .LtE) (rCmp2 K fun p q => !llt q p) := hK ▸ op_le2 hu
theorem op_gt2k (hK : X.K = K) (hu : X.A.units + 64 < cLine) : OpR X (compareOp .Gt) (rCmp2 K fun p q => llt q p) := hK ▸ op_gt2 hu
theorem cr_min1k (hK : X.K = K) (hc : X.calm = true) (hu : X.A.units + 64 < cLine) : CallR X (.builtin "min") (rBest1 K mn) := hK ▸ cr_min1 hc hu
theorem cr_max1k (hK : X.K = K) (hc : X.calm = true) (hu : X.A.units + 64 < cLine) : CallR X (.builtin "max") (rBest1 K mx) := hK ▸ cr_max1 hc hu
theorem op_catTNk (hK : X.K = K) : OpR X (binaryOp .Add) (rCatTN K) := hK ▸ op_catTN
theorem ix_tupk (hK : X.K = K) : IxR X (rIxT K) := hK ▸ ix_tup
theorem ix_listk (hK : X.K = K) : IxR X (rIxL K) := hK ▸ ix_list
theorem op_neDk (hK : X.K = K) (hu : X.A.units + 64 < cLine) : OpR X (compareOp .NotEq) (rNeD K) := hK ▸ op_neD hu
theorem op_eqDk (hK : X.K = K) (hu : X.A.units + 64 < cLine) : OpR X (compareOp .Eq) (rEqD K) := hK ▸ op_eqD hu
end

theorem acc3 {K : PySem.W.Frag} {H5 H' H7 : Hp} {pD p7 : Addr} {ws : List V} {ss : List S3} {t : S3} (nD : H5 pD = none) (t1 : Same H5 H') (e : H' pD = some (.lst ws))
    (all : AllAt (At3 K H') ws ss) (s7 : Same H' H7) (n7 : H' p7 = none) (g7 : H7 p7 = some (.tup [.int t.1, .int t.2.1, .int t.2.2])) (len : ss.length ≤ 900) :
    ∃ acc, H7 pD = some (.lst acc) ∧ acc.length < sizeLine ∧ (Same H5 (upd H7 pD (.lst (acc ++ [.ref p7]))) ∧
      ∃ ws', (upd H7 pD (.lst (acc ++ [.ref p7]))) pD = some (.lst ws') ∧ AllAt (At3 K (upd H7 pD (.lst (acc ++ [.ref p7])))) ws' (ss ++ [t])) := by
  have npD : pD ≠ p7 := ne_of_none e n7
  have k7 := s7 _ _ e
  have lw := all.length
  have sT : ∀ {o : HO} {b : Addr} {xs : List V}, SqT K H7 b xs → SqT K (upd H7 pD o) b xs := fun {o b xs} z => by
    rcases z with (z | ⟨oo, z⟩) | z
    · exact .inl (.inl (by rw [upd_ne (ne_of z k7 (by intro z; cases z))]; exact z))
    · exact .inl (.inr ⟨oo, by rw [upd_ne (ne_of z k7 (by intro z; cases z))]; exact z⟩)
    · exact .inr z
  refine ⟨ws, k7, small1000 (by omega), fun b o z => ?_, ws ++ [.ref p7], upd_same, ?_⟩
  · rw [upd_ne (ne_of_none z nD)]
    exact (t1.trans s7) _ _ z
  · refine AllAt.app (all.map fun v s h => ?_) (.cons ⟨p7, rfl, .inl (.inl ?_)⟩ .nil)
    · obtain ⟨b, rfl, h9⟩ := h.same s7
      exact ⟨b, rfl, sT h9⟩
    · rw [upd_ne npD.symm]
      exact g7
end Cl

namespace Cl
open PySem PySem.Spec PyProof.Rows L2
/-! ### what two lines have in common is shown shortly -/
def ok3 (s : S3) : Prop := okI s.1 ∧ okI s.2.1 ∧ okI s.2.2
theorem okI.sh {i : Int} (h : okI i) : i.natAbs.log2 < 1920 := by have := h.log; omega
theorem fine3 : ∀ {ss : List S3}, ss.length ≤ 2 → (∀ s ∈ ss, ok3 s) → Fine (.tuple (ss.map d3))
  | [], _, _ => by constructor <;> decide
  | [a], _, h => by
    obtain ⟨h1, h2, h3⟩ := h a (by simp)
    have a1 := h1.len
    have a2 := h2.len
    have a3 := h3.len
    have b1 := h1.sh
    have b2 := h2.sh
    have b3 := h3.sh
    constructor
    · simp [d3, PyData.leavesShort, PyData.leavesShortAll, a1, a2, a3]
    · simp [d3, PyData.showable, PyData.showableAll, b1, b2, b3]
    · rfl
    · simp [d3, PyData.depth, PyData.depthAll]
    · simp [d3, PyData.bulk, PyData.bulkAll]
  | [a, b], _, h => by
    obtain ⟨h1, h2, h3⟩ := h a (by simp)
    obtain ⟨g1, g2, g3⟩ := h b (by simp)
    have a1 := h1.len
    have a2 := h2.len
    have a3 := h3.len
    have b1 := h1.sh
    have b2 := h2.sh
    have b3 := h3.sh
    have c1 := g1.len
    have c2 := g2.len
    have c3 := g3.len
    have e1 := g1.sh
    have e2 := g2.sh
    have e3 := g3.sh
    constructor
    · simp [d3, PyData.leavesShort, PyData.leavesShortAll, a1, a2, a3, c1, c2, c3]
    · simp [d3, PyData.showable, PyData.showableAll, b1, b2, b3, e1, e2, e3]
    · rfl
    · simp [d3, PyData.depth, PyData.depthAll]
    · simp [d3, PyData.bulk, PyData.bulkAll]
theorem BdC.or {p q r : Pt} (hp : BdC p) (hq : BdC q) (h : r = p ∨ r = q) : BdC r := by rcases h with rfl | rfl <;> assumption
theorem ok_one3 {p : Pt} (h : BdC p) : ok3 (one3 p) := by
  unfold BdC at h
  exact ⟨okI.of (show -(2 ^ 189) < p.1 by omega) (show p.1 < 2 ^ 189 by omega), okI.of (show -(2 ^ 189) < p.2 by omega) (show p.2 < 2 ^ 189 by omega), okI.of (show -(2 ^ 189) < (1 : Int) by omega) (show (1 : Int) < 2 ^ 189 by omega)⟩
theorem okI_div {n p : Int} (h : n.natAbs < 2 ^ 190) : okI (n / p) := Nat.lt_of_le_of_lt (Int.natAbs_ediv_le_natAbs n p) h
theorem fine_cmn {l r : Ln} (bl : BdL l) (br : BdL r) : Fine (.tuple ((cmn l r).map d3)) := by
  have b1 := bd_less bl.2 bl.1
  have b2 := bd_less br.2 br.1
  have b3 := bd_less br.1 bl.1
  have t1 := trn_lt b1 b2
  have t2 := trn_lt b3 b2
  have kM : (klm l r).2.2.natAbs < 2 ^ 122 := by
    show (trn (less l.2 l.1) (less r.2 r.1) * kfs l r).natAbs < 2 ^ 122
    unfold kfs
    split <;> omega
  have kN : (klm l r).1.natAbs < 2 ^ 122 := by
    show (trn (less r.1 l.1) (less r.2 r.1) * kfs l r).natAbs < 2 ^ 122
    unfold kfs
    split <;> omega
  have hlo : BdC (lo l r) := by
    obtain ⟨c, _⟩ := mx_or (mn l.1 l.2) (mn r.1 r.2)
    exact BdC.or (BdC.or bl.1 bl.2 (mn_or l.1 l.2).1) (BdC.or br.1 br.2 (mn_or r.1 r.2).1) c
  have hhi : BdC (hi l r) := by
    obtain ⟨c, _⟩ := mn_or (mx l.1 l.2) (mx r.1 r.2)
    exact BdC.or (BdC.or bl.1 bl.2 (mx_or l.1 l.2).1) (BdC.or br.1 br.2 (mx_or r.1 r.2).1) c
  unfold cmn
  split
  · unfold acr
    simp only
    split
    · refine fine3 (by simp) fun s hs => ?_
      rw [List.mem_singleton.mp hs]
      obtain ⟨⟨x1, x2⟩, x3, x4⟩ := bl.1
      unfold BdP less at b1
      obtain ⟨⟨y1, y2⟩, y3, y4⟩ := b1
      simp only at y1 y2 y3 y4
      have m1 := wide_lt (i := (klm l r).2.2) (j := l.1.1) (a := 122) (b := 40) kM (by omega)
      have m2 := wide_lt (i := (klm l r).2.2) (j := l.1.2) (a := 122) (b := 40) kM (by omega)
      have m3 := wide_lt (i := (klm l r).1) (j := l.2.1 - l.1.1) (a := 122) (b := 60) kN (by omega)
      have m4 := wide_lt (i := (klm l r).1) (j := l.2.2 - l.1.2) (a := 122) (b := 60) kN (by omega)
      exact ⟨okI_div (by omega), okI_div (by omega), okI_div (by omega)⟩
    · exact fine3 (by simp) fun s hs => nomatch hs
  · split
    · exact fine3 (by simp) fun s hs => nomatch hs
    · unfold alo
      split
      · exact fine3 (by simp) fun s hs => nomatch hs
      · split
        · refine fine3 (by simp) fun s hs => ?_
          rw [List.mem_singleton.mp hs]
          exact ok_one3 hlo
        · refine fine3 (by simp) fun s hs => ?_
          rcases List.mem_cons.mp hs with rfl | hs
          · exact ok_one3 hlo
          · rw [List.mem_singleton.mp hs]
            exact ok_one3 hhi

/-! ### a list that is written to: tuples and the deck stay -/
section
variable {K : PySem.W.Frag} {H : Hp} {M d l : Addr} {xs : List V} {o : HO} {v : V}
theorem updT {b : Addr} {ys : List V} (e : H M = some (.lst xs)) (h : SqT K H b ys) : SqT K (upd H M o) b ys := by
  rcases h with (z | ⟨oo, z⟩) | z
  · exact .inl (.inl (by rw [upd_ne (ne_of z e (by intro z; cases z))]; exact z))
  · exact .inl (.inr ⟨oo, by rw [upd_ne (ne_of z e (by intro z; cases z))]; exact z⟩)
  · exact .inr z
theorem At2.upd {p : Pt} (h : At2 K H v p) (e : H M = some (.lst xs)) : At2 K (upd H M o) v p := by
  obtain ⟨a, rfl, h⟩ := h
  exact ⟨a, rfl, updT e h⟩
theorem AtL.upd {r : Ln} (h : AtL K H v r) (e : H M = some (.lst xs)) : AtL K (L2.upd H M o) v r := by
  obtain ⟨a, u, w, rfl, h1, h2, h3⟩ := h
  exact ⟨a, u, w, rfl, updT e h1, At2.upd h2 e, At2.upd h3 e⟩
theorem Deck.upd (D : Deck H d l) (h1 : M ≠ d) (h2 : M ≠ l) : Deck (L2.upd H M o) d l := by
  obtain ⟨ns, s, c, e1, e2, e3⟩ := D.ex
  exact ⟨D.ne, ns, s, c, by rw [upd_ne h1.symm]; exact e1, by rw [upd_ne h2.symm]; exact e2, e3⟩
end
/-! ### lines drawn -/
def GoodLn (B : Int) (r : Ln) : Prop := BdN B r.1 ∧ BdN B r.2 ∧ r.1 ≠ r.2
def spPoint (K : PySem.W.Frag) : Sp := fun vs H Q _ => ∃ (d l : Addr) (g : Int), vs = [.ref d, .int g] ∧ 0 < g ∧ g ≤ 10 ∧ Deck H d l ∧
  ∀ w H' p, Step d l H H' → At2 K H' w p → BdN 100 p → Q w H'
def spBeside (K : PySem.W.Frag) : Sp := fun vs H Q _ => ∃ (d l : Addr) (v u w : V) (r : Ln) (p q : Pt), vs = [.ref d, v, u, w] ∧ Deck H d l ∧ AtL K H v r ∧ GoodLn 200 r ∧
  At2 K H u p ∧ BdN 100 p ∧ At2 K H w q ∧ BdN 100 q ∧ ∀ w H' r', Step d l H H' → AtL K H' w r' → GoodLn 3000 r' → Q w H'
def spLine (K : PySem.W.Frag) : Sp := fun vs H Q _ => ∃ (d l : Addr) (g : Int) (L : Addr) (ws : List V) (ls : List Ln), vs = [.ref d, .int g, .ref L] ∧ 0 < g ∧ g ≤ 10 ∧ Deck H d l ∧
  L ≠ d ∧ L ≠ l ∧ H L = some (.lst ws) ∧ AllAt (AtL K H) ws ls ∧ ls.length ≤ 10 ∧ (∀ r ∈ ls, GoodLn 3000 r) ∧
  ∀ w H' r', Step d l H H' → AtL K H' w r' → GoodLn 3000 r' → Q w H'
def AtT (K : PySem.W.Frag) (H : Hp) (v : V) (ls : List Ln) : Prop := ∃ a vs, v = .ref a ∧ SqT K H a vs ∧ AllAt (AtL K H) vs ls
def spLines (K : PySem.W.Frag) (n : Nat) : Sp := fun vs H Q _ => ∃ (d l : Addr) (g : Int), vs = [.ref d, .int g, .int n] ∧ 0 < g ∧ g ≤ 10 ∧ Deck H d l ∧
  ∀ w H' ls, Step d l H H' → AtT K H' w ls → ls.length = n → (∀ r ∈ ls, BdL r ∧ r.1 ≠ r.2) → Q w H'
def dl (r : Ln) : PyData := .tuple [pd r.1, pd r.2]
theorem AtL.dp {K : PySem.W.Frag} {H : Hp} {v : V} {r : Ln} (h : AtL K H v r) : Dp K H v (dl r) := by
  obtain ⟨a, u, w, rfl, h1, h2, h3⟩ := h
  exact .tup h1 (.cons h2.dp (.cons h3.dp .nil))
theorem lines_dp {K : PySem.W.Frag} {H : Hp} : ∀ {ws : List V} {ls : List Ln}, AllAt (AtL K H) ws ls → DpAll K H ws (ls.map dl)
  | _, _, .nil => .nil
  | _, _, .cons h t => .cons h.dp (lines_dp t)
theorem shapedLines (ls : List Ln) : SeqAt.shaped (.list (ls.map dl)) = true := by
  have h1 : ∀ ls : List Ln, PyData.canLayAll0 (ls.map dl) = true := by
    intro ls
    induction ls with
    | nil => rfl
    | cons n r ih => simp [PyData.canLayAll0, PyData.canLay0, dl, pd, ih]
  have h2 : ∀ ls : List Ln, PyData.depthAll (ls.map dl) ≤ 2 := by
    intro ls
    induction ls with
    | nil => decide
    | cons n r ih =>
      simp only [List.map_cons, PyData.depthAll]
      have : (dl n).depth = 2 := by simp [dl, pd, PyData.depth, PyData.depthAll]
      omega
  have h3 := h2 ls
  simp [SeqAt.shaped, PyData.canLay0, PyData.depth, h1]
  omega
theorem eqvNilL (ls : List Ln) : PyData.eqv (.list (ls.map dl)) (.list []) = ls.isEmpty := by
  cases ls <;> simp [PyData.eqv, PyData.eqvAll]
theorem AllAt.three {α : Type} {R : V → α → Prop} {vs : List V} {xs : List α} (h : AllAt R vs xs) (l : xs.length = 3) :
    ∃ v0 v1 v2 x0 x1 x2, vs = [v0, v1, v2] ∧ xs = [x0, x1, x2] ∧ R v0 x0 ∧ R v1 x1 ∧ R v2 x2 := by
  cases h with
  | nil => cases l
  | cons h0 h =>
    cases h with
    | nil => cases l
    | cons h1 h =>
      cases h with
      | nil => cases l
      | cons h2 h =>
        cases h with
        | nil => exact ⟨_, _, _, _, _, _, rfl, rfl, h0, h1, h2⟩
        | cons _ _ => simp at l
end Cl

namespace Cl
open PySem PySem.Spec PyProof.Rows L2
/-! ### what part of a line lies in a cell -/
abbrev Sh := Int × Int
def later (a b : Sh) : Sh := if a.1 * b.2 < b.1 * a.2 then b else a
def soon (a b : Sh) : Sh := if b.1 * a.2 < a.1 * b.2 then b else a
theorem frac_le {a b c d e f : Int} (h1 : a * d ≤ c * b) (h2 : c * f ≤ e * d) (hb : 0 < b) (hd : 0 < d) (hf : 0 < f) : a * f ≤ e * b := by
  refine Int.le_of_mul_le_mul_right (a := d) ?_ hd
  have k1 := Int.mul_le_mul_of_nonneg_right h1 (Int.le_of_lt hf)
  have k2 := Int.mul_le_mul_of_nonneg_right h2 (Int.le_of_lt hb)
  grind
theorem later_le {a b : Sh} {p q : Int} (ha : 0 < a.2) (hb : 0 < b.2) (hq : 0 < q) :
    ((later a b).1 * q ≤ p * (later a b).2) ↔ (a.1 * q ≤ p * a.2 ∧ b.1 * q ≤ p * b.2) := by
  unfold later
  split
  · rename_i h
    exact ⟨fun z => ⟨frac_le (Int.le_of_lt h) z ha hb hq, z⟩, fun z => z.2⟩
  · rename_i h
    exact ⟨fun z => ⟨z, frac_le (Int.not_lt.mp h) z hb ha hq⟩, fun z => z.1⟩
theorem soon_le {a b : Sh} {p q : Int} (ha : 0 < a.2) (hb : 0 < b.2) (hq : 0 < q) :
    (p * (soon a b).2 ≤ (soon a b).1 * q) ↔ (p * a.2 ≤ a.1 * q ∧ p * b.2 ≤ b.1 * q) := by
  unfold soon
  split
  · rename_i h
    exact ⟨fun z => ⟨frac_le z (Int.le_of_lt h) hq hb ha, z⟩, fun z => z.2⟩
  · rename_i h
    exact ⟨fun z => ⟨z, frac_le z (Int.not_lt.mp h) hq ha hb⟩, fun z => z.1⟩
theorem later_pos {a b : Sh} (ha : 0 < a.2) (hb : 0 < b.2) : 0 < (later a b).2 := by unfold later; split <;> assumption
theorem soon_pos {a b : Sh} (ha : 0 < a.2) (hb : 0 < b.2) : 0 < (soon a b).2 := by unfold soon; split <;> assumption
/-- the point at the share p of q lies in the cell's row or column, the greater side not with it -/
def HO1 (g start step num p q : Int) : Prop := (2 * num - 1) * g * q ≤ 2 * (start * q + step * p) ∧ 2 * (start * q + step * p) < (2 * num + 1) * g * q
def CL1 (g start step num p q : Int) : Prop := (2 * num - 1) * g * q ≤ 2 * (start * q + step * p) ∧ 2 * (start * q + step * p) ≤ (2 * num + 1) * g * q
def inc (f l : Sh) (step near far : Int) : Option (Sh × Sh) :=
  if step = 0 then (if near > 0 ∨ far < 0 then none else some (f, l))
  else if step < 0 then some (later f (-far, 2 * -step), soon l (-near, 2 * -step)) else some (later f (near, 2 * step), soon l (far, 2 * step))
theorem cl1_iff (g start step num p q : Int) : CL1 g start step num p q ↔ (((2 * num - 1) * g - 2 * start) * q ≤ 2 * step * p ∧ 2 * step * p ≤ ((2 * num + 1) * g - 2 * start) * q) := by
  unfold CL1
  constructor <;> intro h <;> constructor <;> grind
theorem inc_none {g start step num : Int} {f l : Sh} (h : inc f l step ((2 * num - 1) * g - 2 * start) ((2 * num + 1) * g - 2 * start) = none) {p q : Int} (hq : 0 < q) : ¬ CL1 g start step num p q := by
  unfold inc at h
  split at h
  · rename_i hs
    split at h
    · rename_i hz
      rw [cl1_iff, hs]
      intro ⟨k1, k2⟩
      rcases hz with z | z
      · have := Int.mul_pos z hq
        omega
      · have := Int.mul_pos (show 0 < -((2 * num + 1) * g - 2 * start) by omega) hq
        rw [Int.neg_mul] at this
        omega
    · cases h
  · split at h <;> cases h
theorem inc_some {g start step num : Int} {f l f' l' : Sh} (hf : 0 < f.2) (hl : 0 < l.2) (h : inc f l step ((2 * num - 1) * g - 2 * start) ((2 * num + 1) * g - 2 * start) = some (f', l')) :
    0 < f'.2 ∧ 0 < l'.2 ∧ ∀ p q : Int, 0 < q → ((f.1 * q ≤ p * f.2 ∧ p * l.2 ≤ l.1 * q ∧ CL1 g start step num p q) ↔ (f'.1 * q ≤ p * f'.2 ∧ p * l'.2 ≤ l'.1 * q)) := by
  unfold inc at h
  split at h
  · rename_i hs
    split at h
    · cases h
    · rename_i hz
      cases h
      refine ⟨hf, hl, fun p q hq => ⟨fun z => ⟨z.1, z.2.1⟩, fun z => ⟨z.1, z.2, ?_⟩⟩⟩
      rw [cl1_iff, hs]
      have h1 : ((2 * num - 1) * g - 2 * start) ≤ 0 := by omega
      have h2 : 0 ≤ ((2 * num + 1) * g - 2 * start) := by omega
      have := Int.mul_le_mul_of_nonneg_right h1 (Int.le_of_lt hq)
      have := Int.mul_nonneg h2 (Int.le_of_lt hq)
      omega
  · rename_i hs
    split at h
    · rename_i hz
      cases h
      have h2 : (0 : Int) < 2 * -step := by omega
      refine ⟨later_pos hf h2, soon_pos hl h2, fun p q hq => ?_⟩
      rw [later_le hf h2 hq, soon_le hl h2 hq, cl1_iff]
      simp only
      constructor
      · intro ⟨a, b, c, d⟩
        refine ⟨⟨a, ?_⟩, b, ?_⟩ <;> grind
      · intro ⟨⟨a, c⟩, b, d⟩
        refine ⟨a, b, ?_, ?_⟩ <;> grind
    · rename_i hz
      cases h
      have h2 : (0 : Int) < 2 * step := by omega
      refine ⟨later_pos hf h2, soon_pos hl h2, fun p q hq => ?_⟩
      rw [later_le hf h2 hq, soon_le hl h2 hq, cl1_iff]
      simp only
      constructor
      · intro ⟨a, b, c, d⟩
        refine ⟨⟨a, ?_⟩, b, ?_⟩ <;> grind
      · intro ⟨⟨a, c⟩, b, d⟩
        refine ⟨a, b, ?_, ?_⟩ <;> grind
def HOc (g : Int) (r : Ln) (c : Pt) (p q : Int) : Prop := HO1 g r.1.1 (r.2.1 - r.1.1) c.1 p q ∧ HO1 g r.1.2 (r.2.2 - r.1.2) c.2 p q
def Meets (g : Int) (r : Ln) (c : Pt) : Prop := ∃ p q : Int, 0 < q ∧ 0 ≤ p ∧ p ≤ q ∧ HOc g r c p q
def rimL (g n : Int) : Int := (2 * n - 1) * g
def rimH (g n : Int) : Int := (2 * n + 1) * g
def sharesW (g : Int) (r : Ln) (c : Pt) : Option (Sh × Sh) :=
  match inc (0, 1) (1, 1) (r.2.1 - r.1.1) (rimL g c.1 - 2 * r.1.1) (rimH g c.1 - 2 * r.1.1) with
  | none => none
  | some (f, l) => match inc f l (r.2.2 - r.1.2) (rimL g c.2 - 2 * r.1.2) (rimH g c.2 - 2 * r.1.2) with
    | none => none
    | some (f, l) => if l.1 * f.2 < f.1 * l.2 then none else some (f, l)
def midP (f l : Sh) : Int := f.1 * l.2 + l.1 * f.2
def midQ (f l : Sh) : Int := 2 * f.2 * l.2
theorem sharesW_none {g : Int} {r : Ln} {c : Pt} (h : sharesW g r c = none) : ¬ Meets g r c := by
  intro ⟨p, q, hq, h0, h1, ha, hb⟩
  have ca : CL1 g r.1.1 (r.2.1 - r.1.1) c.1 p q := ⟨ha.1, Int.le_of_lt ha.2⟩
  have cb : CL1 g r.1.2 (r.2.2 - r.1.2) c.2 p q := ⟨hb.1, Int.le_of_lt hb.2⟩
  unfold sharesW rimL rimH at h
  split at h
  · exact inc_none (by assumption) hq ca
  · rename_i f l e1
    obtain ⟨f2, l2, k1⟩ := inc_some (by decide) (by decide) e1
    have k1 := (k1 p q hq).mp ⟨by simp only; omega, by simp only; omega, ca⟩
    split at h
    · exact inc_none (by assumption) hq cb
    · rename_i f' l' e2
      obtain ⟨f3, l3, k2⟩ := inc_some f2 l2 e2
      have k2 := (k2 p q hq).mp ⟨k1.1, k1.2, cb⟩
      split at h
      · rename_i z
        have := frac_le k2.1 k2.2 f3 hq l3
        omega
      · cases h
theorem sharesW_some {g : Int} {r : Ln} {c : Pt} {f l : Sh} (h : sharesW g r c = some (f, l)) :
    0 < f.2 ∧ 0 < l.2 ∧ f.1 * l.2 ≤ l.1 * f.2 ∧ ∀ p q : Int, 0 < q → ((0 ≤ p ∧ p ≤ q ∧ CL1 g r.1.1 (r.2.1 - r.1.1) c.1 p q ∧ CL1 g r.1.2 (r.2.2 - r.1.2) c.2 p q) ↔ (f.1 * q ≤ p * f.2 ∧ p * l.2 ≤ l.1 * q)) := by
  unfold sharesW rimL rimH at h
  split at h
  · cases h
  · rename_i f1 l1 e1
    obtain ⟨f2, l2, k1⟩ := inc_some (by decide) (by decide) e1
    split at h
    · cases h
    · rename_i f' l' e2
      obtain ⟨f3, l3, k2⟩ := inc_some f2 l2 e2
      split at h
      · cases h
      · rename_i z
        cases h
        refine ⟨f3, l3, by omega, fun p q hq => ⟨fun w => (k2 p q hq).mp ?_, fun w => ?_⟩⟩
        · have := (k1 p q hq).mp ⟨by simp only; omega, by simp only; omega, w.2.2.1⟩
          exact ⟨this.1, this.2, w.2.2.2⟩
        · obtain ⟨a, b, d⟩ := (k2 p q hq).mpr w
          obtain ⟨a', b', d'⟩ := (k1 p q hq).mpr ⟨a, b⟩
          simp only at a' b'
          exact ⟨by omega, by omega, d', d⟩
theorem at_end {a s p q z n F : Int} (w : 2 * (a * q + s * p) * n < F * q * n) (w2 : 2 * (a * n + s * z) * q = F * n * q) (k : s * (z * q) ≤ s * (p * n)) : False := by
  have e1 : 2 * (a * q + s * p) * n = 2 * (a * q * n) + 2 * (s * (p * n)) := by grind
  have e2 : 2 * (a * n + s * z) * q = 2 * (a * q * n) + 2 * (s * (z * q)) := by grind
  have e3 : F * n * q = F * q * n := Int.mul_right_comm ..
  omega
theorem ends_eq {a s k l m n F : Int} (e : 2 * (a * (2 * m * n) + s * (k * n + l * m)) = F * (2 * m * n)) (e1 : 2 * (a * m + s * k) * n ≤ F * m * n) (e2 : 2 * (a * n + s * l) * m ≤ F * n * m) :
    2 * (a * m + s * k) * n = F * m * n ∧ 2 * (a * n + s * l) * m = F * n * m := by
  have c1 : 2 * (a * (2 * m * n) + s * (k * n + l * m)) = 2 * (a * m + s * k) * n + 2 * (a * n + s * l) * m := by grind
  have c2 : F * (2 * m * n) = F * m * n + F * n * m := by grind
  omega
/-- the middle of the part within lies in the cell, or nothing does -/
theorem meets_mid {g : Int} {r : Ln} {c : Pt} {f l : Sh} (h : sharesW g r c = some (f, l)) : Meets g r c ↔ HOc g r c (midP f l) (midQ f l) := by
  obtain ⟨f2, l2, fl, k⟩ := sharesW_some h
  have hQ : 0 < midQ f l := Int.mul_pos (by omega) l2
  have hm : f.1 * midQ f l ≤ midP f l * f.2 ∧ midP f l * l.2 ≤ l.1 * midQ f l := by
    unfold midP midQ
    have a1 := Int.mul_le_mul_of_nonneg_right fl (Int.le_of_lt f2)
    have a2 := Int.mul_le_mul_of_nonneg_right fl (Int.le_of_lt l2)
    constructor <;> grind
  obtain ⟨m0, m1, ca, cb⟩ := (k _ _ hQ).mpr hm
  constructor
  · intro ⟨p, q, hq, h0, h1, ha, hb⟩
    have kt := (k p q hq).mp ⟨h0, h1, ⟨ha.1, Int.le_of_lt ha.2⟩, ⟨hb.1, Int.le_of_lt hb.2⟩⟩
    have kf := (k f.1 f.2 f2).mpr ⟨Int.le_refl _, fl⟩
    have kl := (k l.1 l.2 l2).mpr ⟨fl, Int.le_refl _⟩
    have one : ∀ start step num : Int, HO1 g start step num p q → CL1 g start step num f.1 f.2 → CL1 g start step num l.1 l.2 → CL1 g start step num (midP f l) (midQ f l) → HO1 g start step num (midP f l) (midQ f l) := by
      intro start step num ht hf hl hmid
      refine ⟨hmid.1, Int.lt_iff_le_and_ne.mpr ⟨hmid.2, fun e => ?_⟩⟩
      -- both ends lie at the greater side
      have e1 : 2 * (start * f.2 + step * f.1) * l.2 ≤ (2 * num + 1) * g * f.2 * l.2 := Int.mul_le_mul_of_nonneg_right hf.2 (Int.le_of_lt l2)
      have e2 : 2 * (start * l.2 + step * l.1) * f.2 ≤ (2 * num + 1) * g * l.2 * f.2 := Int.mul_le_mul_of_nonneg_right hl.2 (Int.le_of_lt f2)
      obtain ⟨s1, s2⟩ := ends_eq e e1 e2
      have t1 : 2 * (start * f.2 + step * f.1) = (2 * num + 1) * g * f.2 := Int.eq_of_mul_eq_mul_right (by omega) s1
      have t2 : 2 * (start * l.2 + step * l.1) = (2 * num + 1) * g * l.2 := Int.eq_of_mul_eq_mul_right (by omega) s2
      have ht2 := ht.2
      rcases Int.lt_or_le step 0 with hs | hs
      · have k3 := Int.mul_le_mul_of_nonneg_left kt.2 (show 0 ≤ -step by omega)
        rw [Int.neg_mul, Int.neg_mul] at k3
        exact at_end (Int.mul_lt_mul_of_pos_right ht2 l2) (by rw [t2]) (by omega)
      · have k3 := Int.mul_le_mul_of_nonneg_left kt.1 hs
        exact at_end (Int.mul_lt_mul_of_pos_right ht2 f2) (by rw [t1]) k3
    exact ⟨one _ _ _ ha kf.2.2.1 kl.2.2.1 ca, one _ _ _ hb kf.2.2.2 kl.2.2.2 cb⟩
  · intro w
    exact ⟨_, _, hQ, m0, m1, w⟩
end Cl

namespace Cl
open PySem PySem.Spec PyProof.Rows L2
/-! ### shares that are tried one by one -/
/-- of a rising list: what N parted by q is, is in it, or lies strictly between two neighbours -/
theorem consec {q N : Int} (hq : 0 < q) : ∀ (L : List Int), L.Pairwise (· ≤ ·) → (∃ a ∈ L, a * q ≤ N) → (∃ b ∈ L, N ≤ b * q) →
    (∃ a ∈ L, a * q = N) ∨ ∃ a b, (a, b) ∈ L.dropLast.zip L.tail ∧ a * q < N ∧ N < b * q ∧ ∀ c ∈ L, c ≤ a ∨ b ≤ c
  | [], _, ⟨_, h, _⟩, _ => nomatch h
  | [a], _, ⟨x, hx, h1⟩, ⟨y, hy, h2⟩ => by
    rw [List.mem_singleton] at hx hy
    subst hx
    subst hy
    exact .inl ⟨_, List.mem_singleton_self _, Int.le_antisymm h1 h2⟩
  | a :: b :: r, hp, ⟨x, hx, h1⟩, ⟨y, hy, h2⟩ => by
    have ha : ∀ {z : Int}, z ∈ b :: r → a ≤ z := fun h => List.rel_of_pairwise_cons hp h
    have hp2 := List.Pairwise.of_cons hp
    have hax : a * q ≤ N := by
      rcases List.mem_cons.mp hx with rfl | hx
      · exact h1
      · exact Int.le_trans (Int.mul_le_mul_of_nonneg_right (ha hx) (Int.le_of_lt hq)) h1
    rcases Int.lt_or_le N (b * q) with hb | hb
    · rcases Int.lt_or_eq_of_le hax with h | h
      · refine .inr ⟨a, b, ?_, h, hb, fun c hc => ?_⟩
        · simp
        · rcases List.mem_cons.mp hc with rfl | hc
          · exact .inl (Int.le_refl _)
          · rcases List.mem_cons.mp hc with rfl | hc
            · exact .inr (Int.le_refl _)
            · exact .inr (List.rel_of_pairwise_cons hp2 hc)
      · exact .inl ⟨a, List.mem_cons_self .., h⟩
    · have hy2 : ∃ y ∈ b :: r, N ≤ y * q := by
        rcases List.mem_cons.mp hy with rfl | hy
        · exact ⟨b, List.mem_cons_self .., Int.le_trans h2 (Int.mul_le_mul_of_nonneg_right (ha (List.mem_cons_self ..)) (Int.le_of_lt hq))⟩
        · exact ⟨y, hy, h2⟩
      rcases consec hq (b :: r) hp2 ⟨b, List.mem_cons_self .., hb⟩ hy2 with ⟨z, hz, e⟩ | ⟨u, v, hz, k1, k2, k3⟩
      · exact .inl ⟨z, List.mem_cons_of_mem _ hz, e⟩
      · refine .inr ⟨u, v, ?_, k1, k2, fun c hc => ?_⟩
        · show (u, v) ∈ (a :: (b :: r).dropLast).zip ((b :: r).tail.cons b)
          simp only [List.tail_cons, List.zip_cons_cons, List.mem_cons]
          exact .inr hz
        · rcases List.mem_cons.mp hc with rfl | hc
          · left
            have hub : b ≤ u ∨ u < b := by omega
            rcases k3 b (List.mem_cons_self ..) with h | h
            · exact Int.le_trans (ha (List.mem_cons_self ..)) h
            · have : v * q ≤ b * q := Int.mul_le_mul_of_nonneg_right h (Int.le_of_lt hq)
              omega
          · exact k3 c hc
/-- one of the two rows: where what lies at the share p of q lies in it, so what lies at s, no crossing of its sides being strictly between -/
theorem row_mid {g start step num W p q a b s : Int} (hW : 0 < W) (hq : 0 < q) (ht : HO1 g start step num p q) (h1 : a * q < 2 * W * p) (h2 : 2 * W * p < b * q) (m1 : a < s) (m2 : s < b)
    (hc : step ≠ 0 → ∀ side ∈ [rimL g num, rimH g num], ∃ c : Int, 2 * step * c = (side - 2 * start) * W ∧ (2 * c ≤ a ∨ b ≤ 2 * c)) : HO1 g start step num s (2 * W) := by
  obtain ⟨t1, t2⟩ := ht
  have W2 : 0 < 2 * W := by omega
  by_cases hs : step = 0
  · subst hs
    have e1 : (2 * num - 1) * g ≤ 2 * start := Int.le_of_mul_le_mul_right (a := q) (by
      have : 2 * (start * q + 0 * p) = 2 * start * q := by rw [Int.zero_mul, Int.add_zero, Int.mul_assoc]
      omega) hq
    have e2 : 2 * start < (2 * num + 1) * g := Int.lt_of_mul_lt_mul_right (a := q) (by
      have : 2 * (start * q + 0 * p) = 2 * start * q := by rw [Int.zero_mul, Int.add_zero, Int.mul_assoc]
      omega) (Int.le_of_lt hq)
    have k : 2 * (start * (2 * W) + 0 * s) = 2 * start * (2 * W) := by rw [Int.zero_mul, Int.add_zero, Int.mul_assoc]
    refine ⟨?_, ?_⟩
    · rw [k]; exact Int.mul_le_mul_of_nonneg_right e1 (Int.le_of_lt W2)
    · rw [k]; exact Int.mul_lt_mul_of_pos_right e2 W2
  · obtain ⟨c1, e1, n1⟩ := hc hs (rimL g num) (by simp)
    obtain ⟨c2, e2, n2⟩ := hc hs (rimH g num) (by simp)
    unfold rimL at e1
    unfold rimH at e2
    unfold HO1
    generalize (2 * num - 1) * g = lo at *
    generalize (2 * num + 1) * g = hi at *
    -- times 2 W: step (2 W p - 2 c1 q) ≥ 0, step (2 W p - 2 c2 q) < 0
    have f1 := Int.mul_le_mul_of_nonneg_right t1 (Int.le_of_lt W2)
    have f2 := Int.mul_lt_mul_of_pos_right t2 W2
    have x1 : lo * q * (2 * W) = 2 * (step * (2 * c1 * q)) + 2 * (start * q * (2 * W)) := by
      have : 2 * step * c1 * q = (lo - 2 * start) * W * q := by rw [e1]
      grind
    have x2 : hi * q * (2 * W) = 2 * (step * (2 * c2 * q)) + 2 * (start * q * (2 * W)) := by
      have : 2 * step * c2 * q = (hi - 2 * start) * W * q := by rw [e2]
      grind
    have x3 : 2 * (start * q + step * p) * (2 * W) = 2 * (step * (2 * W * p)) + 2 * (start * q * (2 * W)) := by grind
    have g1 : step * (2 * c1 * q) ≤ step * (2 * W * p) := by omega
    have g2 : step * (2 * W * p) < step * (2 * c2 * q) := by omega
    have y1 : lo * (2 * W) = 2 * (step * (2 * c1)) + 2 * (start * (2 * W)) := by grind
    have y2 : hi * (2 * W) = 2 * (step * (2 * c2)) + 2 * (start * (2 * W)) := by grind
    have y3 : 2 * (start * (2 * W) + step * s) = 2 * (step * s) + 2 * (start * (2 * W)) := by grind
    have mul_q : ∀ u v : Int, u ≤ v → u * q ≤ v * q := fun u v h => Int.mul_le_mul_of_nonneg_right h (Int.le_of_lt hq)
    rcases Int.lt_or_le step 0 with hs | hs
    · have h1' : 2 * W * p ≤ 2 * c1 * q := Int.not_lt.mp fun z => by
        have := Int.mul_lt_mul_of_pos_left z (show 0 < -step by omega)
        rw [Int.neg_mul, Int.neg_mul] at this
        omega
      have h2' : 2 * c2 * q < 2 * W * p := Int.lt_of_not_ge fun z => by
        have := Int.mul_le_mul_of_nonneg_left z (show 0 ≤ -step by omega)
        rw [Int.neg_mul, Int.neg_mul] at this
        omega
      have b1 : b ≤ 2 * c1 := by
        rcases n1 with z | z
        · have := mul_q _ _ z
          omega
        · exact z
      have b2 : 2 * c2 ≤ a := by
        rcases n2 with z | z
        · exact z
        · have := mul_q _ _ z
          omega
      have w1 := Int.mul_lt_mul_of_pos_left (show s < 2 * c1 by omega) (show 0 < -step by omega)
      have w2 := Int.mul_lt_mul_of_pos_left (show 2 * c2 < s by omega) (show 0 < -step by omega)
      rw [Int.neg_mul, Int.neg_mul] at w1 w2
      exact ⟨by omega, by omega⟩
    · have hs' : 0 < step := by omega
      have h1' : 2 * c1 * q ≤ 2 * W * p := Int.le_of_mul_le_mul_left g1 hs'
      have h2' : 2 * W * p < 2 * c2 * q := Int.lt_of_mul_lt_mul_left g2 hs
      have b1 : 2 * c1 ≤ a := by
        rcases n1 with z | z
        · exact z
        · have := mul_q _ _ z
          omega
      have b2 : b ≤ 2 * c2 := by
        rcases n2 with z | z
        · have := mul_q _ _ z
          omega
        · exact z
      have w1 := Int.mul_lt_mul_of_pos_left (show 2 * c1 < s by omega) hs'
      have w2 := Int.mul_lt_mul_of_pos_left (show s < 2 * c2 by omega) hs'
      exact ⟨by omega, by omega⟩
theorem mem_zip_tail {a b : Int} : ∀ {L : List Int}, (a, b) ∈ L.dropLast.zip L.tail → a ∈ L ∧ b ∈ L := by
  intro L h
  have h1 := (List.of_mem_zip h).1
  have h2 := (List.of_mem_zip h).2
  exact ⟨(List.dropLast_sublist L).subset h1, List.mem_of_mem_tail h2⟩
/-- the shares that are tried: some of 2 W, rising, both ends and each crossing within them there, and the middles of neighbours -/
theorem tried {g W : Int} {r : Ln} {c : Pt} {L : List Int} (hW : 0 < W) (hp : L.Pairwise (· ≤ ·)) (hL : ∀ s ∈ L, ∃ t : Int, s = 2 * t ∧ 0 ≤ t ∧ t ≤ W) (h0 : 0 ∈ L) (h1 : 2 * W ∈ L)
    (hx : r.2.1 - r.1.1 ≠ 0 → ∀ side ∈ [rimL g c.1, rimH g c.1], ∃ k : Int, 2 * (r.2.1 - r.1.1) * k = (side - 2 * r.1.1) * W ∧ (0 ≤ k → k ≤ W → 2 * k ∈ L))
    (hy : r.2.2 - r.1.2 ≠ 0 → ∀ side ∈ [rimL g c.2, rimH g c.2], ∃ k : Int, 2 * (r.2.2 - r.1.2) * k = (side - 2 * r.1.2) * W ∧ (0 ≤ k → k ≤ W → 2 * k ∈ L)) :
    Meets g r c ↔ ∃ s ∈ L ++ (L.dropLast.zip L.tail).map (fun z => (z.1 + z.2) / 2), HOc g r c s (2 * W) := by
  have rng : ∀ s ∈ L ++ (L.dropLast.zip L.tail).map (fun z => (z.1 + z.2) / 2), 0 ≤ s ∧ s ≤ 2 * W := fun s hs => by
    rcases List.mem_append.mp hs with h | h
    · obtain ⟨t, e, t0, t1⟩ := hL s h
      omega
    · obtain ⟨⟨a, b⟩, hm, rfl⟩ := List.mem_map.mp h
      obtain ⟨ha, hb⟩ := mem_zip_tail hm
      obtain ⟨t, e, t0, t1⟩ := hL _ ha
      obtain ⟨u, f, u0, u1⟩ := hL _ hb
      simp only
      omega
  constructor
  · intro ⟨p, q, hq, p0, p1, ha, hb⟩
    have hN0 : (0 : Int) * q ≤ 2 * W * p := by
      rw [Int.zero_mul]
      exact Int.mul_nonneg (by omega) p0
    have hN1 : 2 * W * p ≤ 2 * W * q := Int.mul_le_mul_of_nonneg_left p1 (by omega)
    rcases consec hq L hp ⟨0, h0, hN0⟩ ⟨2 * W, h1, hN1⟩ with ⟨a, ha', e⟩ | ⟨a, b, hz, k1, k2, k3⟩
    · refine ⟨a, List.mem_append_left _ ha', ?_⟩
      have same : ∀ start step num : Int, HO1 g start step num p q → HO1 g start step num a (2 * W) := fun start step num ⟨t1, t2⟩ => by
        have x : 2 * (start * (2 * W) + step * a) * q = 2 * (start * q + step * p) * (2 * W) := by
          have : step * (a * q) = step * (2 * W * p) := by rw [e]
          grind
        have y : ∀ z : Int, z * q * (2 * W) = z * (2 * W) * q := fun z => by rw [Int.mul_right_comm]
        have s1 := Int.mul_le_mul_of_nonneg_right t1 (show 0 ≤ 2 * W by omega)
        have s2 := Int.mul_lt_mul_of_pos_right t2 (show 0 < 2 * W by omega)
        rw [y, ← x] at s1
        rw [y, ← x] at s2
        exact ⟨Int.le_of_mul_le_mul_right s1 hq, Int.lt_of_mul_lt_mul_right s2 (Int.le_of_lt hq)⟩
      exact ⟨same _ _ _ ha, same _ _ _ hb⟩
    · obtain ⟨ma, mb⟩ := mem_zip_tail hz
      obtain ⟨t, ea, t0, t1⟩ := hL _ ma
      obtain ⟨u, eb, u0, u1⟩ := hL _ mb
      have hab : a < b := Int.lt_of_mul_lt_mul_right (Int.lt_trans k1 k2) (Int.le_of_lt hq)
      have m1 : a < (a + b) / 2 := by omega
      have m2 : (a + b) / 2 < b := by omega
      refine ⟨(a + b) / 2, List.mem_append_right _ (List.mem_map.mpr ⟨(a, b), hz, rfl⟩), ?_, ?_⟩
      · refine row_mid hW hq ha k1 k2 m1 m2 fun hs side hm => ?_
        obtain ⟨k, e, hk⟩ := hx hs side hm
        refine ⟨k, e, ?_⟩
        by_cases z0 : 0 ≤ k
        · by_cases z1 : k ≤ W
          · exact k3 _ (hk z0 z1)
          · right; omega
        · left; omega
      · refine row_mid hW hq hb k1 k2 m1 m2 fun hs side hm => ?_
        obtain ⟨k, e, hk⟩ := hy hs side hm
        refine ⟨k, e, ?_⟩
        by_cases z0 : 0 ≤ k
        · by_cases z1 : k ≤ W
          · exact k3 _ (hk z0 z1)
          · right; omega
        · left; omega
  · intro ⟨s, hs, h⟩
    obtain ⟨s0, s1⟩ := rng s hs
    exact ⟨s, 2 * W, by omega, s0, s1, h⟩
/-- turned about, and moved by whole corners -/
theorem Meets.rev {g : Int} {r : Ln} {c : Pt} : Meets g (r.2, r.1) c ↔ Meets g r c := by
  have one : ∀ {r : Ln}, Meets g r c → Meets g (r.2, r.1) c := fun {r} ⟨p, q, hq, p0, p1, ha, hb⟩ => by
    refine ⟨q - p, q, hq, by omega, by omega, ?_, ?_⟩
    · have e : r.2.1 * q + (r.1.1 - r.2.1) * (q - p) = r.1.1 * q + (r.2.1 - r.1.1) * p := by grind
      unfold HO1 at ha ⊢
      simp only
      rw [e]
      exact ha
    · have e : r.2.2 * q + (r.1.2 - r.2.2) * (q - p) = r.1.2 * q + (r.2.2 - r.1.2) * p := by grind
      unfold HO1 at hb ⊢
      simp only
      rw [e]
      exact hb
  exact ⟨fun h => one h, fun h => one h⟩
theorem Meets.move {g i j : Int} {r : Ln} {c : Pt} : Meets g ((r.1.1 + i * g, r.1.2 + j * g), (r.2.1 + i * g, r.2.2 + j * g)) (c.1 + i, c.2 + j) ↔ Meets g r c := by
  have one : ∀ start step num i p q : Int, HO1 g (start + i * g) step (num + i) p q ↔ HO1 g start step num p q := fun start step num i p q => by
    unfold HO1
    have e1 : (2 * (num + i) - 1) * g * q = (2 * num - 1) * g * q + 2 * (i * g * q) := by grind
    have e2 : (2 * (num + i) + 1) * g * q = (2 * num + 1) * g * q + 2 * (i * g * q) := by grind
    have e3 : 2 * ((start + i * g) * q + step * p) = 2 * (start * q + step * p) + 2 * (i * g * q) := by grind
    rw [e1, e2, e3]
    omega
  unfold Meets HOc
  simp only [show ∀ a b k : Int, a + k - (b + k) = a - b from fun a b k => by omega, one]
theorem nr_eq {n d i : Int} (h : 0 < d) : nr n d = i ↔ (2 * i - 1) * d ≤ 2 * n ∧ 2 * n < (2 * i + 1) * d := by
  have k := nr_lies (n := n) h
  constructor
  · intro e
    rw [← e]
    exact k
  · intro ⟨a, b⟩
    have c1 : (2 * nr n d - 1) * d < (2 * i + 1) * d := by omega
    have c2 : (2 * i - 1) * d < (2 * nr n d + 1) * d := by omega
    have := Int.lt_of_mul_lt_mul_right c1 (Int.le_of_lt h)
    have := Int.lt_of_mul_lt_mul_right c2 (Int.le_of_lt h)
    omega
theorem in_cell {g start step num p q : Int} (hg : 0 < g) (hq : 0 < q) : nr (q * start + p * step) (q * g) = num ↔ HO1 g start step num p q := by
  rw [nr_eq (Int.mul_pos hq hg)]
  unfold HO1
  rw [show start * q + step * p = q * start + p * step by rw [Int.mul_comm q, Int.mul_comm p], show (2 * num - 1) * g * q = (2 * num - 1) * (q * g) by rw [Int.mul_assoc, Int.mul_comm g q], show (2 * num + 1) * g * q = (2 * num + 1) * (q * g) by rw [Int.mul_assoc, Int.mul_comm g q]]
theorem HO1.scale {g start step num p q k : Int} (hk : 0 < k) : HO1 g start step num (p * k) (q * k) ↔ HO1 g start step num p q := by
  unfold HO1
  have e1 : (2 * num - 1) * g * (q * k) = (2 * num - 1) * g * q * k := by rw [Int.mul_assoc _ q k]
  have e2 : (2 * num + 1) * g * (q * k) = (2 * num + 1) * g * q * k := by rw [Int.mul_assoc _ q k]
  have e3 : 2 * (start * (q * k) + step * (p * k)) = 2 * (start * q + step * p) * k := by grind
  rw [e1, e2, e3]
  exact ⟨fun ⟨a, b⟩ => ⟨Int.le_of_mul_le_mul_right a hk, Int.lt_of_mul_lt_mul_right b (Int.le_of_lt hk)⟩, fun ⟨a, b⟩ => ⟨Int.mul_le_mul_of_nonneg_right a (Int.le_of_lt hk), Int.mul_lt_mul_of_pos_right b hk⟩⟩
/-- in lowest terms the middle lies in the cell just when it does -/
theorem mid_low {g p q k : Int} {r : Ln} {c : Pt} (hk : 0 < k) : HOc g r c (p * k) (q * k) ↔ HOc g r c p q := by
  unfold HOc
  rw [HO1.scale hk, HO1.scale hk]
end Cl

namespace Cl
open PySem PySem.Spec PyProof.Rows L2
/-! ### promises: shares of lines within cells -/
def ShB (s : Sh) : Prop := -(2 ^ 60) < s.1 ∧ s.1 < 2 ^ 60 ∧ 0 < s.2 ∧ s.2 < 2 ^ 60
def spRims (K : PySem.W.Frag) : Sp := fun vs H Q _ => ∃ g n : Int, vs = [.int g, .int n] ∧ 0 < g ∧ g < 2 ^ 60 ∧ New H (.tup [.int (rimL g n), .int (rimH g n)]) Q
def spLow (K : PySem.W.Frag) : Sp := fun vs H Q _ => ∃ n d : Int, vs = [.int n, .int d] ∧ 0 < d ∧ d < 2 ^ 200 ∧
  ∀ w H' (p q k : Int), Same H H' → 0 < k → n = p * k → d = q * k → 0 < q → At2 K H' w (p, q) → Q w H'
def spSooner (K : PySem.W.Frag) : Sp := fun vs H Q _ => ∃ u v p q, vs = [u, v] ∧ At2 K H u p ∧ At2 K H v q ∧ ShB p ∧ ShB q ∧ Q (.bl (decide (p.1 * q.2 < q.1 * p.2))) H
def spLater (K : PySem.W.Frag) (f : Sh → Sh → Sh) : Sp := fun vs H Q _ => ∃ u v p q, vs = [u, v] ∧ At2 K H u p ∧ At2 K H v q ∧ ShB p ∧ ShB q ∧ ∀ w, At2 K H w (f p q) → Q w H
theorem later_ShB {a b : Sh} (ha : ShB a) (hb : ShB b) : ShB (later a b) := by unfold later; split <;> assumption
theorem soon_ShB {a b : Sh} (ha : ShB a) (hb : ShB b) : ShB (soon a b) := by unfold soon; split <;> assumption
theorem low_parts {n d : Int} (hd : 0 < d) : ∃ k : Int, k = (Int.gcd n d : Nat) ∧ 0 < k ∧ k ≤ d ∧ n = n / k * k ∧ d = d / k * k ∧ 0 < d / k := by
  have h0 : 0 < Int.gcd n d := Int.gcd_pos_of_ne_zero_right _ (by omega)
  have h1 : ((Int.gcd n d : Nat) : Int) ∣ n := Int.gcd_dvd_left ..
  have h2 : ((Int.gcd n d : Nat) : Int) ∣ d := Int.gcd_dvd_right ..
  refine ⟨_, rfl, by omega, Int.le_of_dvd hd h2, (Int.ediv_mul_cancel h1).symm, (Int.ediv_mul_cancel h2).symm, Int.ediv_pos_of_pos_of_dvd hd (by omega) h2⟩
end Cl

namespace Cl
open PySem PySem.Spec PyProof.Rows L2
/-! ### a loop over zip of three tuples -/
def Itz3 (K : PySem.W.Frag) (a b c : Addr) : It :=
  ⟨fun i H => ∃ xs ys zs : List V, SqT K H a xs ∧ SqT K H b ys ∧ SqT K H c zs ∧ i < xs.length ∧ i < ys.length ∧ i < zs.length,
    fun i H v H' => ∃ T x y u, v = .ref T ∧ H T = none ∧ H' = upd H T (.tup [x, y, u]) ∧ (∀ xs, SqT K H a xs → xs[i]? = some x) ∧ (∀ ys, SqT K H b ys → ys[i]? = some y) ∧ ∀ zs, SqT K H c zs → zs[i]? = some u,
    fun i H => ∃ xs ys zs : List V, SqT K H a xs ∧ SqT K H b ys ∧ SqT K H c zs ∧ i = min (min xs.length ys.length) zs.length⟩
theorem turn_zip3 {P : Program} {w : World} {K : PySem.W.Frag} {elts : List Expr} {kk : Nat} {tpos : Pos} {a b c z TI TO i1 i2 i3 : Addr} (S : ZipSep3 z TI TO i1 i2 i3 [i1, a] [i2, b] [i3, c]) (n1 : a ≠ i1) (n2 : b ≠ i2) (n3 : c ≠ i3) :
    Turn P w K (.Tuple elts kk tpos) (Itz3 K a b c) [z, TI, TO, i1, i2, i3] z (fun i h => IsZip h z TI TO .none ∧ IsTupOf3 h TI (.ref i1) (.ref i2) (.ref i3) ∧ (∃ x y u, IsTupOf3 h TO x y u) ∧ h.IsTupleIter i1 a i ∧ h.IsTupleIter i2 b i ∧ h.IsTupleIter i3 c i) where
  mem := by simp
  obj := fun i h st d hd => by
    obtain ⟨hz, hTI, ⟨x, y, u, hTO⟩, ⟨o1, e1, _, d1⟩, ⟨o2, e2, _, d2⟩, ⟨o3, e3, _, d3⟩⟩ := st
    simp only [List.mem_cons, List.not_mem_nil, or_false] at hd
    rcases hd with rfl | rfl | rfl | rfl | rfl | rfl
    · exact ⟨_, hz, fun v q => nomatch q⟩
    · exact ⟨_, hTI, fun v q => nomatch q⟩
    · exact ⟨_, hTO, fun v q => nomatch q⟩
    · exact ⟨o1, e1, fun v q => by rw [d1] at q; cases q⟩
    · exact ⟨o2, e2, fun v q => by rw [d2] at q; cases q⟩
    · exact ⟨o3, e3, fun v q => by rw [d3] at q; cases q⟩
  keep := fun i h h' st k => by
    obtain ⟨hz, hTI, ⟨x, y, u, hTO⟩, h1, h2, h3⟩ := st
    exact ⟨k z (by simp) _ hz, k TI (by simp) _ hTI, ⟨x, y, u, k TO (by simp) _ hTO⟩, h1.at fun o q => k i1 (by simp) o q, h2.at fun o q => k i2 (by simp) o q, h3.at fun o q => k i3 (by simp) o q⟩
  item := by
    intro X hP hw hK hc i pins s σ H E I hf st hg
    subst hP hw hK
    obtain ⟨hz, hTI, hTO, h1, h2, h3⟩ := st
    obtain ⟨xs, ys, zs, q1, q2, q3, l1, l2, l3⟩ := hg
    obtain ⟨t1, r1, p1, _⟩ := I.tuple q1
    obtain ⟨t2, r2, p2, _⟩ := I.tuple q2
    obtain ⟨t3, r3, p3, _⟩ := I.tuple q3
    have m1 := r1.length
    have m2 := r2.length
    have m3 := r3.length
    have hh : X.A.in1.handled = none := I.ok.hd hc
    have W := GoesN.zip3 (elts := elts) (x1 := kk) (pos := tpos) S (Draws.tuple (prog := X.prog) (w := X.w) hh i1 a n1 t1.toArray) (Draws.tuple hh i2 b n2 t2.toArray) (Draws.tuple hh i3 c n3 t3.toArray)
    refine W.goes i s _ E (by simp; omega) ⟨hz, hTI, hTO, ⟨h1, p1⟩, ⟨h2, p2⟩, ⟨h3, p3⟩⟩ fun v h' tk hY st' hk htk => ?_
    obtain ⟨T, x, y, u, rfl, hT, hx, hy, hu, hTup⟩ := hY
    obtain ⟨z', TI', TO', ⟨h1', _⟩, ⟨h2', _⟩, ⟨h3', _⟩⟩ := st'
    obtain ⟨x', ex, rx⟩ := r1.get (List.getElem?_eq_getElem l1)
    obtain ⟨y', ey, ry⟩ := r2.get (List.getElem?_eq_getElem l2)
    obtain ⟨u', eu, ru⟩ := r3.get (List.getElem?_eq_getElem l3)
    have ex' : x' = x := by simpa [ex] using hx
    have ey' : y' = y := by simpa [ey] using hy
    have eu' : u' = u := by simpa [eu] using hu
    subst ex' ey' eu'
    have new : ObjOk X.prog X.w (upd H T (.tup [xs[i], ys[i], zs[i]])) h' T (.tup [xs[i], ys[i], zs[i]]) :=
      ⟨by show 3 ≤ sizeLine; decide, [x', y', u'], .cons rx (.cons ry (.cons ru .nil)), hTup⟩
    have hk2 : ∀ d o, d ∉ [z, TI, TO, i1, i2, i3] → s.heap.get? d = some o → h'.get? d = some o := fun d o hd e =>
      hk d o (fun q => hd (by simp only [List.mem_cons, List.not_mem_nil, or_false] at q ⊢; rcases q with q | q | q | q | q <;> simp [q])) e
    have I1 := I.turnedNew (t' := tk) (ch := [z, TI, TO, i1, i2, i3]) hk2 hf hT new
    refine ⟨.ref T, _, I1, rfl, ⟨T, _, _, _, rfl, I.hok.fresh hT, rfl, fun l hl => by rw [I.tuple_inj hl q1]; exact List.getElem?_eq_getElem l1, fun l hl => by rw [I.tuple_inj hl q2]; exact List.getElem?_eq_getElem l2, fun l hl => by rw [I.tuple_inj hl q3]; exact List.getElem?_eq_getElem l3⟩, ⟨z', TI', TO', h1', h2', h3'⟩, fun d hd => ?_⟩
    have hlt : d < s.heap.objs.size := by
      simp only [List.mem_cons, List.not_mem_nil, or_false] at hd
      obtain ⟨_, _, _, hTO⟩ := hTO
      rcases hd with q | q | q | q | q | q
      · rw [q]; exact Heap.lt_size hz
      · rw [q]; exact Heap.lt_size hTI
      · rw [q]; exact Heap.lt_size hTO
      · rw [q]; obtain ⟨_, e1, _⟩ := h1; exact Heap.lt_size e1
      · rw [q]; obtain ⟨_, e1, _⟩ := h2; exact Heap.lt_size e1
      · rw [q]; obtain ⟨_, e1, _⟩ := h3; exact Heap.lt_size e1
    rw [upd_ne (Nat.ne_of_lt (Nat.lt_of_lt_of_le hlt hT))]
    exact (hf d hd).1
  done := by
    intro X hP hw hK hc i pins s σ H E I hf st hg
    subst hP hw hK
    obtain ⟨hz, hTI, hTO, h1, h2, h3⟩ := st
    obtain ⟨xs, ys, zs, q1, q2, q3, l⟩ := hg
    obtain ⟨t1, r1, p1, _⟩ := I.tuple q1
    obtain ⟨t2, r2, p2, _⟩ := I.tuple q2
    obtain ⟨t3, r3, p3, _⟩ := I.tuple q3
    have m1 := r1.length
    have m2 := r2.length
    have m3 := r3.length
    have hh : X.A.in1.handled = none := I.ok.hd hc
    have W := GoesN.zip3 (elts := elts) (x1 := kk) (pos := tpos) S (Draws.tuple (prog := X.prog) (w := X.w) hh i1 a n1 t1.toArray) (Draws.tuple hh i2 b n2 t2.toArray) (Draws.tuple hh i3 c n3 t3.toArray)
    have hi : i = min (min t1.toArray.size t2.toArray.size) t3.toArray.size := by simp; omega
    subst hi
    refine W.stops s _ E ⟨hz, hTI, hTO, ⟨h1, p1⟩, ⟨h2, p2⟩, ⟨h3, p3⟩⟩ fun h' tk hk htk => I.turnedL (t' := tk) (ch := [z, TI, TO, i1, i2, i3]) (fun d o hd e => ?_) hf
    exact hk d o (fun q => hd (by simp only [List.mem_cons, List.not_mem_nil, or_false] at q ⊢; rcases q with q | q | q | q | q <;> simp [q])) e
  self := fun A i s Q E st h => wpAny_pyIter_zip st.1 h
def iZip3 (K : PySem.W.Frag) (ta : TA) : TI := fun σ H R => ta σ H fun vs H1 => ∃ a b c xs ys zs, vs = [.ref a, .ref b, .ref c] ∧ SqT K H1 a xs ∧ SqT K H1 b ys ∧ SqT K H1 c zs ∧ R (Itz3 K a b c) H1
theorem pi_zip3 {X : Cx} {e e2 e3 : Expr} {ta : TA} {p pos tpos : Pos} {elts : List Expr} {kk : Nat} (hg : Gl X "zip") (hm : X.mg "zip" = none) (ha : PA X [e, e2, e3] ta)
    (hs : starEach [e, e2, e3] X.env = (false, eval e X.env) :: starEach [e2, e3] X.env := by rfl) (hpl : (backTo pos (starEach [e2, e3] X.env)).any (·.1) = false := by rfl) :
    PI X (.Tuple elts kk tpos) (.Call (.Name "zip" p) [e, e2, e3] [] pos) (iZip3 X.K ta) := by
  refine ⟨fun pins s σ H R I h => ?_⟩
  refine Call_ (ld_blt I hg hm PyProof.Rows.boot_zip (PyProof.Rows.callWith_type1 (thn (ha.run pos pins s σ H _ I h) fun us s1 ⟨vs, H1, I1, r1, q1⟩ => ?_) hs hpl))
  obtain ⟨a, b, c, xs, ys, zs, ex, q1, q2, q3, q⟩ := q1
  subst ex
  cases r1 with
  | cons r rr =>
    cases rr with
    | cons r' rr =>
      cases rr with
      | cons r'' rr =>
        cases rr
        cases r
        cases r'
        cases r''
        obtain ⟨t1, v1, p1, _⟩ := I1.tuple q1
        obtain ⟨t2, v2, p2, _⟩ := I1.tuple q2
        obtain ⟨t3, v3, p3, _⟩ := I1.tuple q3
        have la : a < s1.heap.objs.size := by obtain ⟨o1, g1, _⟩ := id p1; exact Heap.lt_size g1
        have lb : b < s1.heap.objs.size := by obtain ⟨o1, g1, _⟩ := id p2; exact Heap.lt_size g1
        have lc : c < s1.heap.objs.size := by obtain ⟨o1, g1, _⟩ := id p3; exact Heap.lt_size g1
        have fresh : ∀ d, d ∈ [s1.heap.objs.size + 5, s1.heap.objs.size + 3, s1.heap.objs.size + 4, s1.heap.objs.size, s1.heap.objs.size + 1, s1.heap.objs.size + 2] → FpOk X pins H1 d := fun d hd => by
          have hle : s1.heap.objs.size ≤ d := by
            simp only [List.mem_cons, List.not_mem_nil, or_false] at hd
            rcases hd with z | z | z | z | z | z
            · rw [z]; exact Nat.le_add_right _ _
            · rw [z]; exact Nat.le_add_right _ _
            · rw [z]; exact Nat.le_add_right _ _
            · rw [z]; exact Nat.le_refl _
            · rw [z]; exact Nat.le_add_right _ _
            · rw [z]; exact Nat.le_add_right _ _
          exact I1.fpOk hle (I1.hok.fresh hle)
        refine zip_begins3 (begins_tuple a t1.toArray) (begins_tuple b t2.toArray) (begins_tuple c t3.toArray) p1 p2 p3 fun h' hz hTI hTO h1 h2 h3 hsz hk => wpAny_pyIter_zip hz ?_
        have I2 : Inv X pins σ H1 { s1 with heap := h' } := I1.kept (t' := s1.toks) hk
        have ne : ∀ (d : Addr) (k : Nat), d < s1.heap.objs.size → d ≠ s1.heap.objs.size + k := fun d k hd => Nat.ne_of_lt (Nat.lt_of_lt_of_le hd (Nat.le_add_right _ _))
        exact ⟨s1.heap.objs.size + 5, [s1.heap.objs.size + 5, s1.heap.objs.size + 3, s1.heap.objs.size + 4, s1.heap.objs.size, s1.heap.objs.size + 1, s1.heap.objs.size + 2], _, _, H1, rfl, I2,
          turn_zip3 (zip_sep3 (fp1 := [a]) (fp2 := [b]) (fp3 := [c]) (fun d hd => by rw [List.mem_singleton.mp hd]; exact la) (fun d hd => by rw [List.mem_singleton.mp hd]; exact lb) (fun d hd => by rw [List.mem_singleton.mp hd]; exact lc)) (ne a 0 la) (ne b 1 lb) (ne c 2 lc),
          ⟨hz, hTI, ⟨_, _, _, hTO⟩, ⟨_, h1, rfl, rfl⟩, ⟨_, h2, rfl, rfl⟩, ⟨_, h3, rfl, rfl⟩⟩, fresh, q⟩
theorem for_zip3 {K : PySem.W.Frag} {a b c : Addr} {xs ys zs : List V} {g : TG} {tb : TS} {D : Ends} {σ : L2.St} {H : Hp} (hl : xs.length = ys.length) (hl2 : xs.length = zs.length) (Pv : Nat → L2.St → Hp → Prop) (h0 : Pv 0 σ H) (hq : ∀ i σ H, Pv i σ H → SqT K H a xs ∧ SqT K H b ys ∧ SqT K H c zs)
    (hs : ∀ (i : Nat) (x y u : V) (T : Addr) (σ : L2.St) (H : Hp), xs[i]? = some x → ys[i]? = some y → zs[i]? = some u → Pv i σ H → H T = none → g (.ref T) σ (upd H T (.tup [x, y, u])) fun σ2 H2 => tb { D with nx := Pv (i + 1), ct := Pv (i + 1), bk := D.nx } σ2 H2) (hd : ∀ σ H, Pv xs.length σ H → D.nx σ H) :
    ∃ W : Nat → Nat → L2.St → Hp → Prop, (∃ m, W 0 m σ H) ∧ ∀ i m σ H, W i m σ H →
      ((Itz3 K a b c).stop i H ∧ D.nx σ H) ∨ ((Itz3 K a b c).go i H ∧ ∃ N : L2.St → Hp → Prop, (∀ σ' H', N σ' H' → ∃ m', m' < m ∧ W (i + 1) m' σ' H') ∧ ∀ v H', (Itz3 K a b c).yld i H v H' → g v σ H' fun σ2 H2 => tb { D with nx := N, ct := N, bk := D.nx } σ2 H2) := by
  refine ⟨fun i m σ H => m = xs.length - i ∧ i ≤ xs.length ∧ Pv i σ H, ⟨xs.length, rfl, Nat.zero_le _, h0⟩, ?_⟩
  rintro i m σ H ⟨rfl, hi, p⟩
  obtain ⟨qx, qy, qz⟩ := hq i σ H p
  by_cases hlt : i < xs.length
  · refine .inr ⟨⟨xs, ys, zs, qx, qy, qz, hlt, by omega, by omega⟩, Pv (i + 1), fun σ' H' p' => ⟨xs.length - (i + 1), by omega, rfl, hlt, p'⟩, fun v H' y => ?_⟩
    obtain ⟨T, x', y', u', rfl, hT, rfl, f1, f2, f3⟩ := y
    exact hs i x' y' u' T σ H (f1 xs qx) (f2 ys qy) (f3 zs qz) p hT
  · have e : i = xs.length := by omega
    subst e
    exact .inl ⟨⟨xs, ys, zs, qx, qy, qz, by omega⟩, hd σ H p⟩
end Cl

namespace Cl
open PySem PySem.Spec PyProof.Rows L2
/-! ### pairs of lines of great numbers -/
def AtPair (K : PySem.W.Frag) (H : Hp) (v : V) (l r : Ln) : Prop := ∃ a u w, v = .ref a ∧ SqT K H a [u, w] ∧ AtL K H u l ∧ AtL K H w r
def GoodPair (l r : Ln) : Prop := BdL l ∧ BdL r ∧ l.1 ≠ l.2 ∧ r.1 ≠ r.2
def spPair (K : PySem.W.Frag) : Sp := fun vs H Q _ => ∃ (d l : Addr), vs = [.ref d] ∧ Deck H d l ∧
  ∀ w H' m n, Step d l H H' → AtPair K H' w m n → GoodPair m n → Q w H'
def spNum (B : Int) : Sp := fun vs H Q _ => ∃ (d l : Addr), vs = [.ref d] ∧ Deck H d l ∧ ∀ v H', -B ≤ v → v ≤ B → Step d l H H' → Q (.int v) H'
def spStepsP (K : PySem.W.Frag) : Sp := fun vs H Q _ => ∃ (d l : Addr), vs = [.ref d] ∧ Deck H d l ∧
  ∀ w H' p, Step d l H H' → At2 K H' w p → BdN 60000 p → p ≠ (0, 0) → Q w H'
theorem bdC_of {p : Pt} (h : BdN 10000000 p) : BdC p := by
  unfold BdN at h
  unfold BdC
  omega
theorem AllAt.twoLn {K : PySem.W.Frag} {H : Hp} {vs : List V} {p q : Pt} (h : AllAt (At2 K H) vs [p, q]) : ∃ u w, vs = [u, w] ∧ At2 K H u p ∧ At2 K H w q := by
  match vs, h with
  | [u, w], .cons a (.cons b .nil) => exact ⟨u, w, rfl, a, b⟩
theorem four {xs : List Int} (h : xs.length = 4) : ∃ x y z w, xs = [x, y, z, w] := by
  match xs, h with
  | [x, y, z, w], _ => exact ⟨x, y, z, w, rfl⟩
end Cl

namespace Cl
open PySem PySem.Spec PyProof.Rows L2
/-! ### a call of a def with a starred argument behind the first -/
section
variable {X : Cx} {k : Nat} {ps : List Str} {sp : Sp} {x : Str} {p pos : Pos} {e : Expr} {es : List Expr} {t : TA}
theorem callDS (D : Def X.prog X.w X.K X.mg X.base k x ps sp) (hr : RG k X.A) (ha : PA X (e :: es) t)
    (hg : Gl X x := by rfl) (hdb : (x == ("__debug__" : Str)) = false := by decide)
    (he : starEach (e :: es) X.env = (false, eval e X.env) :: starEach es X.env := by rfl)
    (hst : (backTo pos (starEach es X.env)).any (·.1) = true := by rfl) :
    PE X (.Call (.Name x p) (e :: es) [] pos) (tCall sp [] E0 t) := by
  obtain ⟨f, fd, F, hm, hk, hb⟩ := D.ex
  constructor
  intro pins s σ H Q I h
  refine wpAny_Call_Name_kw (ld_glob I hg hm ?_ hdb)
  refine PySem.W.callWith_S2 (h₀ := X.base) I.ok.mod.kin hk ?_ he hst
  refine thn (ha.run pos pins s σ H _ I h) fun us s1 ⟨vs, H1, I1, r, q⟩ => ⟨I1.kIn, ?_⟩
  have r2 : Vals (vs ++ []) (us ++ []) := r.append .nil
  have h2 : sp (vs ++ []) H1 Q E0 := q
  have n2 : (us ++ []).length = ps.length := r2.length.symm.trans (F.len _ _ _ _ h2)
  have run := F.run X.A X.stack s1 H1 ⟨us, []⟩ (us ++ []) (vs ++ []) Q E0 hr I1.env0 (hb s1 us I1.kIn n2) r2 h2
  refine wpAny_call (codeAny_mono run fun res s' hq => ?_)
  match res, hq with
  | .error ee, hq => exact pass0 pins σ H1 s1 ee s' I1 hq
  | .ok (.ret u), hq => exact I1.after hq
  | .ok .next, hq => exact hq.elim
  | .ok .brk, hq => exact hq.elim
  | .ok .cont, hq => exact hq.elim
end
/-! ### promises: the part of a line within a cell -/
def BdW (g : Int) (r : Ln) (c : Pt) : Prop := 0 < g ∧ g ≤ 1000 ∧ BdN 3000000 r.1 ∧ BdN 3000000 r.2 ∧ BdN 3000000 c
def AtSh (K : PySem.W.Frag) (H : Hp) (v : V) (f l : Sh) : Prop := ∃ a u w, v = .ref a ∧ SqT K H a [u, w] ∧ At2 K H u f ∧ At2 K H w l
def ShN (s : Sh) : Prop := -(2 ^ 36) < s.1 ∧ s.1 < 2 ^ 36 ∧ 0 < s.2 ∧ s.2 < 2 ^ 24
theorem ShN.b {s : Sh} (h : ShN s) : ShB s := by
  unfold ShN at h
  unfold ShB
  omega
theorem later_ShN {a b : Sh} (ha : ShN a) (hb : ShN b) : ShN (later a b) := by unfold later; split <;> assumption
theorem soon_ShN {a b : Sh} (ha : ShN a) (hb : ShN b) : ShN (soon a b) := by unfold soon; split <;> assumption
def spWithin (K : PySem.W.Frag) : Sp := fun vs H Q _ => ∃ g v r u c, vs = [.int g, v, u] ∧ AtL K H v r ∧ At2 K H u c ∧ BdW g r c ∧
  (sharesW g r c = none → ∀ H', Same H H' → Q .non H') ∧ ∀ f l w H', sharesW g r c = some (f, l) → Same H H' → AtSh K H' w f l → ShN f → ShN l → Q w H'
/-- the two numbers of a point, by 0 and 1 -/
def crd (p : Int × Int) (i : Nat) : Int := if i = 0 then p.1 else p.2
def stg (g : Int) (r : Ln) (c : Pt) : Nat → Option (Sh × Sh)
  | 0 => some ((0, 1), (1, 1))
  | i + 1 => match stg g r c i with
    | none => none
    | some (f, l) => inc f l (crd r.2 i - crd r.1 i) (rimL g (crd c i) - 2 * crd r.1 i) (rimH g (crd c i) - 2 * crd r.1 i)
theorem sharesW_stg (g : Int) (r : Ln) (c : Pt) : sharesW g r c = match stg g r c 2 with
    | none => none
    | some (f, l) => if l.1 * f.2 < f.1 * l.2 then none else some (f, l) := by
  unfold sharesW
  cases h : inc (0, 1) (1, 1) (r.2.1 - r.1.1) (rimL g c.1 - 2 * r.1.1) (rimH g c.1 - 2 * r.1.1) with
  | none => simp [stg, crd, h]
  | some z =>
    obtain ⟨f, l⟩ := z
    cases h2 : inc f l (r.2.2 - r.1.2) (rimL g c.2 - 2 * r.1.2) (rimH g c.2 - 2 * r.1.2) with
    | none => simp [stg, crd, h, h2]
    | some z => simp [stg, crd, h, h2]
theorem stg_none {g : Int} {r : Ln} {c : Pt} {i : Nat} (hi : i < 2) (h : stg g r c (i + 1) = none) : sharesW g r c = none := by
  rw [sharesW_stg]
  obtain rfl | rfl : i = 0 ∨ i = 1 := by omega
  · rw [show stg g r c 2 = match stg g r c 1 with
      | none => none
      | some (f, l) => inc f l (crd r.2 1 - crd r.1 1) (rimL g (crd c 1) - 2 * crd r.1 1) (rimH g (crd c 1) - 2 * crd r.1 1) from rfl, h]
  · rw [h]
theorem rim_b {g n : Int} (h0 : 0 < g) (h1 : g ≤ 1000) (n0 : -3000000 ≤ n) (n1 : n ≤ 3000000) : -(2 ^ 34) < rimL g n ∧ rimL g n < 2 ^ 34 ∧ -(2 ^ 34) < rimH g n ∧ rimH g n < 2 ^ 34 := by
  have k : ∀ z : Int, -6000001 ≤ z → z ≤ 6000001 → -6000001000 ≤ z * g ∧ z * g ≤ 6000001000 := fun z z0 z1 => by
    have a1 : (z + 6000001) * g ≤ (z + 6000001) * 1000 := Int.mul_le_mul_of_nonneg_left h1 (by omega)
    have a2 : (6000001 - z) * g ≤ (6000001 - z) * 1000 := Int.mul_le_mul_of_nonneg_left h1 (by omega)
    have a3 : 0 ≤ (z + 6000001) * g := Int.mul_nonneg (by omega) (by omega)
    have a4 : 0 ≤ (6000001 - z) * g := Int.mul_nonneg (by omega) (by omega)
    rw [Int.add_mul] at a1 a3
    rw [Int.sub_mul] at a2 a4
    omega
  unfold rimL rimH
  have := k (2 * n - 1) (by omega) (by omega)
  have := k (2 * n + 1) (by omega) (by omega)
  omega
/-- corner_at: its spot's corner -/
def spCornerAt (K : PySem.W.Frag) : Sp := fun vs H Q _ => ∃ (g : Int) (v : V) (s : S3), vs = [.int g, v] ∧ At3 K H v s ∧ 0 < g ∧ g < 2 ^ 60 ∧ 0 < s.2.2 ∧ s.2.2 * g < 2 ^ 60 ∧
  ∀ w H', Same H H' → At2 K H' w (nr s.1 (s.2.2 * g), nr s.2.1 (s.2.2 * g)) → Q w H'
def spShare (K : PySem.W.Frag) : Sp := fun vs H Q _ => ∃ g v r u c, vs = [.int g, v, u] ∧ AtL K H v r ∧ At2 K H u c ∧ BdW g r c ∧
  (¬ Meets g r c → ∀ H', Same H H' → Q .non H') ∧ (Meets g r c → ∀ p w H', Same H H' → At2 K H' w p → Q w H')
def spMeets (K : PySem.W.Frag) : Sp := fun vs H Q _ => ∃ g v r u c, vs = [.int g, v, u] ∧ AtL K H v r ∧ At2 K H u c ∧ BdW g r c ∧
  ∀ b H', Same H H' → (b = true ↔ Meets g r c) → Q (.bl b) H'
theorem eqv_pair (i j k l : Int) : PyData.eqv (.tuple [.int i, .int j]) (.tuple [.int k, .int l]) = decide (i = k ∧ j = l) := by
  rw [Bool.eq_iff_iff]
  simp [PyData.eqv, PyData.eqvAll]
theorem mid_b {f l : Sh} (hf : ShN f) (hl : ShN l) : 0 < midQ f l ∧ midQ f l ≤ 2 ^ 49 := by
  unfold ShN at hf hl
  unfold midQ
  have h1 : f.2 * l.2 ≤ 2 ^ 24 * 2 ^ 24 := Int.mul_le_mul (by omega) (by omega) (by omega) (by decide)
  have h2 : 0 < f.2 * l.2 := Int.mul_pos (by omega) (by omega)
  rw [Int.mul_assoc]
  omega
/-- the corner of the point at the share p of q is this one just when the point lies in its cell -/
theorem corner_share {g : Int} {r : Ln} {c : Pt} {p q : Int} (hg : 0 < g) (hq : 0 < q) :
    let s := sp3 (q * r.1.1 + p * (r.2.1 - r.1.1)) (q * r.1.2 + p * (r.2.2 - r.1.2)) q
    0 < s.2.2 ∧ s.2.2 ≤ q ∧ ((nr s.1 (s.2.2 * g), nr s.2.1 (s.2.2 * g)) = c ↔ HOc g r c p q) := by
  obtain ⟨k, _, _, _, _, h2, h3⟩ := spot_pos (n := q * r.1.1 + p * (r.2.1 - r.1.1)) (m := q * r.1.2 + p * (r.2.2 - r.1.2)) hq
  refine ⟨h2, h3, ?_⟩
  obtain ⟨e1, e2⟩ := nr_spot (n := q * r.1.1 + p * (r.2.1 - r.1.1)) (m := q * r.1.2 + p * (r.2.2 - r.1.2)) (g := g) hq
  show (nr _ (_ * g), nr _ (_ * g)) = c ↔ _
  unfold sp3
  simp only
  rw [e1, e2]
  unfold HOc
  rw [← in_cell hg hq, ← in_cell hg hq]
  constructor
  · intro e
    rw [← e]
    exact ⟨rfl, rfl⟩
  · intro ⟨a, b⟩
    exact Prod.ext a b
end Cl

namespace Cl
open PySem PySem.Spec PyProof.Rows L2
/-! ### lines of any grain, drawn; the shares tried -/
def BdR (B : Int) (r : Ln) : Prop := BdN B r.1 ∧ BdN B r.2
def spGrainW : Sp := fun vs H Q _ => ∃ d l : Addr, vs = [.ref d] ∧ Deck H d l ∧ ∀ g H', 0 < g → g ≤ 1000 → Step d l H H' → Q (.int g) H'
def spPointW (K : PySem.W.Frag) : Sp := fun vs H Q _ => ∃ (d l : Addr) (g way : Int), vs = [.ref d, .int g, .int way] ∧ 0 < g ∧ g ≤ 1000 ∧ Deck H d l ∧
  ∀ w H' p, Step d l H H' → At2 K H' w p → BdN 5000 p → Q w H'
def spLineW (K : PySem.W.Frag) : Sp := fun vs H Q _ => ∃ (d l : Addr) (g : Int) (L : Addr) (ws : List V) (ls : List Ln), vs = [.ref d, .int g, .ref L] ∧ 0 < g ∧ g ≤ 1000 ∧ Deck H d l ∧
  L ≠ d ∧ L ≠ l ∧ H L = some (.lst ws) ∧ AllAt (AtL K H) ws ls ∧ ls.length ≤ 10 ∧
  ∀ w H' r', Step d l H H' → AtL K H' w r' → BdR 60000 r' → Q w H'
def spLinesW (K : PySem.W.Frag) : Sp := fun vs H Q _ => ∃ (d l : Addr) (g : Int) (n : Nat), vs = [.ref d, .int g, .int n] ∧ 0 < g ∧ g ≤ 1000 ∧ 0 < n ∧ n ≤ 10 ∧ Deck H d l ∧
  ∀ w H' ls, Step d l H H' → AtT K H' w ls → ls.length = n → (∀ r ∈ ls, BdR 60000 r) → Q w H'
def mvL (dx dy : Int) (r : Ln) : Ln := ((r.1.1 + dx, r.1.2 + dy), (r.2.1 + dx, r.2.2 + dy))
def spMovedW (K : PySem.W.Frag) : Sp := fun vs H Q _ => ∃ (v : V) (ls : List Ln) (dx dy : Int), vs = [v, .int dx, .int dy] ∧ AtT K H v ls ∧ ls.length ≤ 900 ∧
  ∀ w H', Same H H' → AtT K H' w (ls.map (mvL dx dy)) → Q w H'
def spNearestW (K : PySem.W.Frag) : Sp := fun vs H Q _ => ∃ (g : Int) (v : V) (s : S3), vs = [.int g, v] ∧ At3 K H v s ∧ 0 < g ∧ g ≤ 1000 ∧ s.2.2 = 16 ∧
  ∀ w H' p, Same H H' → At2 K H' w p → Q w H'
def spSharesW (K : PySem.W.Frag) : Sp := fun vs H Q _ => ∃ g v r u c, vs = [.int g, v, u] ∧ AtL K H v r ∧ At2 K H u c ∧ 0 < g ∧ g ≤ 1000 ∧ BdR 1100000 r ∧ BdN 1000000 c ∧
  ∀ L H' vs ps, Same H H' → H' L = some (.lst vs) → AllAt (At2 K H') vs ps → (ps ≠ [] ↔ Meets g r c) → Q (.ref L) H'
def spFarW : Sp := fun vs H Q _ => ∃ (d l : Addr), vs = [.ref d] ∧ Deck H d l ∧ ∀ v H', -1000000 ≤ v → v ≤ 1000000 → Step d l H H' → Q (.int v) H'
def spSomeW (K : PySem.W.Frag) : Sp := fun vs H Q _ => ∃ (d l : Addr) (g : Int), vs = [.ref d, .int g] ∧ 0 < g ∧ g ≤ 1000 ∧ Deck H d l ∧
  ∀ w H' r, Step d l H H' → AtL K H' w r → BdR 1100000 r → Q w H'
def spNearW (K : PySem.W.Frag) : Sp := fun vs H Q _ => ∃ (d l : Addr) (g : Int) (v : V) (r : Ln), vs = [.ref d, .int g, v] ∧ 0 < g ∧ g ≤ 1000 ∧ Deck H d l ∧ AtL K H v r ∧
  ∀ w H' c, Step d l H H' → At2 K H' w c → BdN 1000000 c → Q w H'
def AtLC (K : PySem.W.Frag) (H : Hp) (v : V) (x : Ln × Pt) : Prop := ∃ a u w, v = .ref a ∧ SqT K H a [u, w] ∧ AtL K H u x.1 ∧ At2 K H w x.2
theorem AtLC.same {K : PySem.W.Frag} {H H' : Hp} {v : V} {x : Ln × Pt} (h : AtLC K H v x) (s : Same H H') : AtLC K H' v x := by
  obtain ⟨a, u, w, rfl, h1, h2, h3⟩ := h
  exact ⟨a, u, w, rfl, seT s h1, h2.same s, h3.same s⟩
theorem AtLC.upd {K : PySem.W.Frag} {H : Hp} {M : Addr} {xs : List V} {o : HO} {v : V} {x : Ln × Pt} (h : AtLC K H v x) (e : H M = some (.lst xs)) : AtLC K (L2.upd H M o) v x := by
  obtain ⟨a, u, w, rfl, h1, h2, h3⟩ := h
  exact ⟨a, u, w, rfl, updT e h1, h2.upd e, h3.upd e⟩
def spTurnedW (K : PySem.W.Frag) : Sp := fun vs H Q _ => ∃ (g : Int) (v : V) (r : Ln) (u : V) (c : Pt) (b : Addr) (i j : Int), vs = [.int g, v, u, .ref b] ∧ AtL K H v r ∧ At2 K H u c ∧ H b = some (.lst [.int i, .int j]) ∧
  0 < g ∧ g ≤ 1000 ∧ BdR 1100000 r ∧ BdN 1000000 c ∧ -10 ≤ i ∧ i ≤ 10 ∧ -10 ≤ j ∧ j ≤ 10 ∧
  ∀ L H' vs ps, Same H H' → H' L = some (.lst vs) → AllAt (AtLC K H') vs ps → (∀ x ∈ ps, BdW g x.1 x.2 ∧ (Meets g x.1 x.2 ↔ Meets g r c)) → Q (.ref L) H'
theorem cut_init (xs : List V) : cutV xs none (some (-1)) = xs.dropLast := by
  unfold cutV
  have e : HT.sIx xs.length xs.length (some (-1)) = xs.length - 1 := by
    show (if (-1 : Int) < 0 then ((-1 : Int) + (xs.length : Int)).toNat else min (-1 : Int).toNat xs.length) = _
    rw [if_pos (by decide)]
    omega
  rw [HT.sIx_none, e, List.drop_zero, Nat.sub_zero, List.dropLast_eq_take]
theorem cut_tail (xs : List V) : cutV xs (some 1) none = xs.tail := by rw [cut_rest, List.drop_one]
section
variable {X : Cx}
theorem cr_sortedIN : CallR X (.builtin "sorted") (fun vs H Q => ∃ (a : Addr) (ns : List Int), vs = [V.ref a] ∧ SqL X.K H a (ns.map V.int) ∧ ∀ ns' : List Int, ns'.Perm ns → ns'.Pairwise (· ≤ ·) → New H (.lst (ns'.map V.int)) Q) :=
  fun pins s σ H vs us Q I r ⟨a, ns, h1, h2, q⟩ => cr_sortedI pins s σ H vs us Q I r ⟨a, ns, h1, h2, fun ns' p h3 h4 n => (q ns' h3 h4).go p n⟩
def rRepN : R2 := fun x y H Q => ∃ l k xs, x = .ref l ∧ y = .int k ∧ H l = some (.lst xs) ∧ -(2 ^ 63) ≤ k ∧ k < 2 ^ 63 ∧ xs.length * k.toNat ≤ sizeLine ∧ New H (.lst (List.replicate k.toNat xs).flatten) Q
theorem op_repN : OpR X (binaryOp .Mult) rRepN := fun pins s σ H x y v u Q I rx ry ⟨l, k, xs, h1, h2, h3, h4, h5, h6, q⟩ => op_rep pins s σ H x y v u Q I rx ry ⟨l, k, xs, h1, h2, h3, h4, h5, h6, q.go⟩
end
section
variable {X : Cx}
theorem cut_whole {xs : List V} {lo hi : Option Int} (h : HT.sIx xs.length 0 lo = 0 ∧ HT.sIx xs.length xs.length hi = xs.length) : cutV xs lo hi = xs := by
  unfold cutV
  rw [h.1, h.2, List.drop_zero, Nat.sub_zero, List.take_length]
/-- t[lo:hi] of a tuple, a new one or itself -/
def rSlTB (K : PySem.W.Frag) : V → Option Int → Option Int → Hp → VK → Prop := fun x lo hi H Q => ∃ a xs, x = .ref a ∧ SqT K H a xs ∧ ∀ p H', Same H H' → SqT K H' p (cutV xs lo hi) → Q (.ref p) H'
theorem sl_tupB : SlR X (rSlTB X.K) := fun pins s σ H x v vl vu lo hi sl Q I rx hs pl pu ⟨a, xs, h1, h2, q⟩ =>
  sl_tupA pins s σ H x v vl vu lo hi sl Q I rx hs pl pu ⟨a, xs, h1, h2, fun hw => q a H (.refl _) (by rw [cut_whole hw]; exact h2), fun _ p n => q p _ (same_new n) (.inl (.inl upd_same))⟩
/-- t + u of tuples, a new one or one of them -/
def rCatTB (K : PySem.W.Frag) : R2 := fun x y H Q => ∃ a b xs ys, x = .ref a ∧ y = .ref b ∧ SqT K H a xs ∧ SqT K H b ys ∧ xs.length + ys.length ≤ sizeLine ∧ ∀ p H', Same H H' → SqT K H' p (xs ++ ys) → Q (.ref p) H'
theorem op_catTB : OpR X (binaryOp .Add) (rCatTB X.K) := fun pins s σ H x y v u Q I rx ry ⟨a, b, xs, ys, h1, h2, h3, h4, h5, q⟩ =>
  op_catA pins s σ H x y v u Q I rx ry ⟨a, b, xs, ys, h1, h2, h3, h4, h5, fun e => q b H (.refl _) (by rw [e]; exact h4), fun _ e => q a H (.refl _) (by rw [e, List.append_nil]; exact h3), fun _ _ p n => q p _ (same_new n) (.inl (.inl upd_same))⟩
end
theorem small64' {n : Nat} (h : n ≤ 100) : n ≤ sizeLine := by
  have : sizeLine = 16777216 := by decide
  omega
/-- over zip of two lists -/
def lcZ {K : PySem.W.Frag} {a b : Addr} {xs ys : List V} {n : Nat} {g : TG} {tt : TT} {te : TE} {vs : List Nat} {σ : L2.St} {H1 : Hp} {D : Addr} {Qd : Hp → Prop} (hn : n = min xs.length ys.length)
    (Pv : Nat → Hp → Prop) (hD : H1 D = none) (h0 : ∀ H', Same H1 H' → H' D = some (.lst []) → Pv 0 H') (hG : ∀ i H, i ≤ n → Pv i H → SqL K H a xs ∧ SqL K H b ys)
    (hs : ∀ i x H H', i < n → Pv i H → YPair (fun i => xs[i]?) (fun i => ys[i]?) i H x H' → g x (wipe σ vs) H' fun σ2 H2 => wipe σ2 vs = wipe σ vs ∧ tt σ2 H2 fun b H3 =>
      if b = true then te σ2 H3 fun y H4 => ∃ acc, H4 D = some (.lst acc) ∧ acc.length < sizeLine ∧ Pv (i + 1) (upd H4 D (.lst (acc ++ [y]))) else Pv (i + 1) H3)
    (hd : ∀ H, Pv n H → Qd H) := lc_it (walk_zip (K := K) (a := a) (b := b) hn) (g := g) (tt := tt) (te := te) (vs := vs) (σ := σ) (H1 := H1) (D := D) (Qd := Qd) Pv (h0 _ (same_new hD) upd_same) hG hs hd
/-! ### the shares that the law tries -/
def ab (z : Int) : Int := if z < 0 then -z else z
def m1 (z : Int) : Int := if ab z > 1 then ab z else 1
def sgn (z : Int) : Int := if z > 0 then 1 else -1
def crs (first way W side : Int) : Int := (side - first) * (W / ab way) * sgn way
def crsR (g first way k W : Int) : List Int := if way ≠ 0 then [crs first way W (rimL g k), crs first way W (rimH g k)] else []
def wh (r : Ln) : Int := m1 (2 * (r.2.1 - r.1.1)) * m1 (2 * (r.2.2 - r.1.2))
def raw (g : Int) (r : Ln) (c : Pt) : List Int := [0, wh r] ++ crsR g (2 * r.1.1) (2 * (r.2.1 - r.1.1)) c.1 (wh r) ++ crsR g (2 * r.1.2) (2 * (r.2.2 - r.1.2)) c.2 (wh r)
def inB (g first way k W s : Int) : Bool := decide (2 * (2 * k - 1) * g * W ≤ first * 2 * W + way * s) && decide (first * 2 * W + way * s < 2 * (2 * k + 1) * g * W)
theorem ab_pos {z : Int} (h : z ≠ 0) : 0 < ab z := by unfold ab; split <;> omega
theorem m1_pos (z : Int) : 0 < m1 z := by unfold m1 ab; split <;> omega
theorem m1_of {z : Int} (h : z ≠ 0) : m1 z = ab z := by unfold m1 ab; split <;> (split <;> omega)
theorem m1_le {z B : Int} (h1 : -B ≤ z) (h2 : z ≤ B) (hB : 1 ≤ B) : m1 z ≤ B := by unfold m1 ab; split <;> (split <;> omega)
theorem wh_pos (r : Ln) : 0 < wh r := Int.mul_pos (m1_pos _) (m1_pos _)
theorem wh_le {r : Ln} (h : BdR 1100000 r) : wh r ≤ 2 ^ 45 := by
  obtain ⟨h1, h2⟩ := h
  unfold BdN at h1 h2
  have a1 := m1_le (z := 2 * (r.2.1 - r.1.1)) (B := 4400000) (by omega) (by omega) (by omega)
  have a2 := m1_le (z := 2 * (r.2.2 - r.1.2)) (B := 4400000) (by omega) (by omega) (by omega)
  have := Int.mul_le_mul a1 a2 (Int.le_of_lt (m1_pos _)) (by omega)
  unfold wh
  omega
theorem crs_eq {first way W side : Int} (hw : way ≠ 0) (hd : ab way ∣ W) : way * crs first way W side = (side - first) * W := by
  unfold crs
  obtain ⟨q, rfl⟩ := hd
  rw [Int.mul_ediv_cancel_left _ (by have := ab_pos hw; omega)]
  unfold ab sgn
  by_cases h : 0 < way
  · rw [if_pos (show way > 0 from h), if_neg (show ¬ way < 0 by omega)]
    generalize side - first = A
    rw [Int.mul_one, Int.mul_left_comm]
  · rw [if_neg (show ¬ way > 0 from h), if_pos (show way < 0 by omega)]
    generalize side - first = A
    rw [Int.mul_neg, Int.mul_one, Int.mul_neg, Int.neg_mul, Int.mul_neg, Int.mul_left_comm]
theorem ab_dvd1 {r : Ln} (h : 2 * (r.2.1 - r.1.1) ≠ 0) : ab (2 * (r.2.1 - r.1.1)) ∣ wh r := by
  unfold wh
  rw [← m1_of h]
  exact Int.dvd_mul_right _ _
theorem ab_dvd2 {r : Ln} (h : 2 * (r.2.2 - r.1.2) ≠ 0) : ab (2 * (r.2.2 - r.1.2)) ∣ wh r := by
  unfold wh
  rw [← m1_of h]
  exact Int.dvd_mul_left _ _
theorem inB_iff (g start step k W s : Int) : inB g (2 * start) (2 * step) k W s = true ↔ HO1 g start step k s (2 * W) := by
  unfold inB HO1
  rw [Bool.and_eq_true, decide_eq_true_eq, decide_eq_true_eq]
  have e1 : 2 * (2 * k - 1) * g * W = (2 * k - 1) * g * (2 * W) := by grind
  have e2 : 2 * (2 * k + 1) * g * W = (2 * k + 1) * g * (2 * W) := by grind
  have e3 : 2 * start * 2 * W + 2 * step * s = 2 * (start * (2 * W) + step * s) := by grind
  rw [e1, e2, e3]
def keepS (W s : Int) : Bool := decide (0 ≤ s) && decide (s ≤ W)
def mids (L : List Int) : List Int := (L.dropLast.zip L.tail).map fun z => (z.1 + z.2) / 2
def inC (g : Int) (r : Ln) (c : Pt) (s : Int) : Bool := inB g (2 * r.1.1) (2 * (r.2.1 - r.1.1)) c.1 (wh r) s && inB g (2 * r.1.2) (2 * (r.2.2 - r.1.2)) c.2 (wh r) s
theorem shares_end {g : Int} {r : Ln} {c : Pt} {L T : List Int} (hp : L.Perm (((raw g r c).filter (keepS (wh r))).map fun s => 2 * s)) (hs : L.Pairwise (· ≤ ·)) (ht : T.Perm (L ++ mids L)) :
    (T.filter (inC g r c) ≠ [] ↔ Meets g r c) := by
  have W0 := wh_pos r
  have mem : ∀ s, keepS (wh r) s = true → s ∈ raw g r c → 2 * s ∈ L := fun s h1 h2 => hp.mem_iff.mpr (List.mem_map.mpr ⟨s, List.mem_filter.mpr ⟨h2, h1⟩, rfl⟩)
  have kp : ∀ s : Int, 0 ≤ s → s ≤ wh r → keepS (wh r) s = true := fun s h1 h2 => by unfold keepS; rw [decide_eq_true h1, decide_eq_true h2]; rfl
  have t := tried (g := g) (r := r) (c := c) W0 hs (fun s hs => by
    obtain ⟨x, hx, rfl⟩ := List.mem_map.mp (hp.mem_iff.mp hs)
    have k := (List.mem_filter.mp hx).2
    unfold keepS at k
    rw [Bool.and_eq_true, decide_eq_true_eq, decide_eq_true_eq] at k
    exact ⟨x, rfl, k.1, k.2⟩) (by have := mem 0 (kp 0 (by omega) (by omega)) (by simp [raw]); simpa using this) (mem (wh r) (kp _ (by omega) (by omega)) (by simp [raw]))
    (fun hx side hside => by
      have h2 : 2 * (r.2.1 - r.1.1) ≠ 0 := by omega
      refine ⟨crs (2 * r.1.1) (2 * (r.2.1 - r.1.1)) (wh r) side, crs_eq h2 (ab_dvd1 h2), fun k0 k1 => mem _ (kp _ k0 k1) ?_⟩
      unfold raw crsR
      rw [if_pos h2]
      simp only [List.mem_cons, List.not_mem_nil, or_false] at hside
      rcases hside with rfl | rfl <;> simp)
    (fun hx side hside => by
      have h2 : 2 * (r.2.2 - r.1.2) ≠ 0 := by omega
      refine ⟨crs (2 * r.1.2) (2 * (r.2.2 - r.1.2)) (wh r) side, crs_eq h2 (ab_dvd2 h2), fun k0 k1 => mem _ (kp _ k0 k1) ?_⟩
      unfold raw crsR
      rw [if_pos h2]
      simp only [List.mem_cons, List.not_mem_nil, or_false] at hside
      rcases hside with rfl | rfl <;> simp)
  rw [t]
  have hin : ∀ s, inC g r c s = true ↔ HOc g r c s (2 * wh r) := fun s => by
    unfold inC HOc
    rw [Bool.and_eq_true, inB_iff, inB_iff]
  constructor
  · intro hne
    obtain ⟨s, hs⟩ := List.exists_mem_of_ne_nil _ hne
    obtain ⟨h1, h2⟩ := List.mem_filter.mp hs
    exact ⟨s, ht.mem_iff.mp h1, (hin s).mp h2⟩
  · rintro ⟨s, h1, h2⟩ e
    have : s ∈ T.filter (inC g r c) := List.mem_filter.mpr ⟨ht.mem_iff.mpr h1, (hin s).mpr h2⟩
    rw [e] at this
    cases this
theorem AllAt.one {α : Type} {R : V → α → Prop} {vs : List V} {x : α} (h : AllAt R vs [x]) : ∃ v, vs = [v] ∧ R v x := by
  match vs, h with
  | [v], .cons h .nil => exact ⟨v, rfl, h⟩
theorem shapedPts (ps : List Pt) : SeqAt.shaped (.list (ps.map pd)) = true := by
  have h1 : ∀ ps : List Pt, PyData.canLayAll0 (ps.map pd) = true := by
    intro ls
    induction ls with
    | nil => rfl
    | cons n r ih => simp [PyData.canLayAll0, PyData.canLay0, pd, ih]
  have h2 : ∀ ps : List Pt, PyData.depthAll (ps.map pd) ≤ 1 := by
    intro ls
    induction ls with
    | nil => decide
    | cons n r ih =>
      simp only [List.map_cons, PyData.depthAll]
      have : (pd n).depth = 1 := by simp [pd, PyData.depth, PyData.depthAll]
      omega
  have h3 := h2 ps
  simp [SeqAt.shaped, PyData.canLay0, PyData.depth, h1]
  omega
theorem eqvNilP (ps : List Pt) : PyData.eqv (.list (ps.map pd)) (.list []) = ps.isEmpty := by
  cases ps <;> simp [PyData.eqv, PyData.eqvAll]
theorem pts_dp {K : PySem.W.Frag} {H : Hp} : ∀ {ws : List V} {ps : List Pt}, AllAt (At2 K H) ws ps → DpAll K H ws (ps.map pd)
  | _, _, .nil => .nil
  | _, _, .cons h t => .cons h.dp (pts_dp t)
end Cl

namespace Cl
open PySem PySem.Spec PyProof.Rows L2
/-! ### enumerate(tuple) -/
set_option maxHeartbeats 1000000 in
theorem meets_enum1B {v : Value} {o : Obj} {H : Heap → Prop} (B : Begins v o H) :
    _root_.PySem.Meets (Builtin.«enumerate.__new__» ⟨[.type "enumerate", v], []⟩) (fun _ R s => H s.heap ∧
      R (.ok (.ret (.ref (s.heap.push o).objs.size))) { s with heap := (s.heap.push o).push { cls := .type "enumerate", data := .fields #[.none, .bool false, .ref s.heap.objs.size, rawInt 0, .none, .none] } }) :=
  .of_wp fun prog w A R s h => by
    obtain ⟨hp, g, d, tk, os⟩ := s; obtain ⟨h1, h⟩ := h
    have hsub := sub_enumerate
    have q1 : ∀ {A' : Around} {E : Value → Shared → Prop} {Q : Value → Shared → Prop}, Q (.ref hp.objs.size) ⟨hp.push o, g, d, tk, os⟩ → wpAny (model prog w) A' (pyIter v) Q E ⟨hp, g, d, tk, os⟩ :=
      fun q => B.iter prog w _ _ ⟨hp, g, d, tk, os⟩ _ h1 q
    wp_walk using q1
    refine wpAny_stack_any fun st => wpAny_pure ?_
    split
    · rename_i c _ _ _ _ _
      cases (c == Value.type "enumerate")
      · wp_walk using q1
        exact ⟨_, rfl, h⟩
      · wp_walk using q1
        exact ⟨_, rfl, h⟩
    · wp_walk using q1
      exact ⟨_, rfl, h⟩
theorem enum_begins1 {prog : Program} {w : World} {A : Around} {E : Value → Shared → Prop} {s : Shared} {v : Value} {o : Obj} {H : Heap → Prop} {Q : Value → Shared → Prop} (B : Begins v o H) (h1 : H s.heap)
    (h : ∀ h', IsEnum h' (s.heap.objs.size + 1) s.heap.objs.size 0 .none → h'.get? s.heap.objs.size = some o → h'.objs.size = s.heap.objs.size + 2 →
      (∀ b o, s.heap.get? b = some o → h'.get? b = some o) → Q (.ref (s.heap.objs.size + 1)) { s with heap := h' }) :
    wpAny (model prog w) A (call (.type "enumerate") [v]) Q E s := by
  refine callType_new F.called_enumerate (by decide) (F.typeCall_enumerate_1 _) (F.newCall_enumerate_1 _) (fun obj => F.args_object_init_2 obj _) F.entry_enumerate_new
    (meets_enum1B B) ⟨h1, ?_⟩
  have hz : (s.heap.push o).objs.size = s.heap.objs.size + 1 := Heap.size_push ..
  show _ ∧ _
  rw [hz]
  have he : IsEnum ((s.heap.push o).push { cls := .type "enumerate", data := .fields #[.none, .bool false, .ref s.heap.objs.size, rawInt 0, .none, .none] }) (s.heap.objs.size + 1) s.heap.objs.size 0 .none := by
    have := Heap.get?_push_size (s.heap.push o) (o := { cls := .type "enumerate", data := .fields #[.none, .bool false, .ref s.heap.objs.size, rawInt 0, .none, .none] }) rfl
    rw [hz] at this; exact this
  refine ⟨⟨_, he, rfl⟩, h _ he (Heap.get?_push_of_some _ (Heap.get?_push_size _ B.free)) (by rw [Heap.size_push, hz]) fun b o x => Heap.get?_push_of_some _ (Heap.get?_push_of_some _ x)⟩
def Iet (K : PySem.W.Frag) (a : Addr) : It :=
  ⟨fun i H => ∃ (xs : List V) (x : V), SqT K H a xs ∧ xs[i]? = some x, fun i H v H' => ∃ T x, v = .ref T ∧ H T = none ∧ H' = upd H T (.tup [.int (i : Nat), x]) ∧ ∀ xs, SqT K H a xs → xs[i]? = some x, fun i H => ∃ xs : List V, SqT K H a xs ∧ xs.length = i⟩
theorem turn_enumT {P : Program} {w : World} {K : PySem.W.Frag} {elts : List Expr} {kk : Nat} {tpos : Pos} {a e it : Addr} (hei : e ≠ it) (hea : e ≠ a) (hia : it ≠ a) :
    Turn P w K (.Tuple elts kk tpos) (Iet K a) [e, it] e (fun i h => (∃ old, IsEnum h e it ((i : Nat) : Int) old) ∧ h.IsTupleIter it a i) where
  mem := by simp
  obj := fun i h st b hb => by
    obtain ⟨⟨old, he⟩, ⟨o, ho, hc, hd⟩⟩ := st
    have e' : b = e ∨ b = it := by simpa using hb
    rcases e' with z | z
    · rw [z]; exact ⟨_, he, fun v q => nomatch q⟩
    · rw [z]; exact ⟨o, ho, fun v q => by rw [hd] at q; cases q⟩
  keep := fun i h h' st k => let ⟨⟨old, he⟩, hi⟩ := st; ⟨⟨old, k e (by simp) _ he⟩, hi.at fun o q => k it (by simp) o q⟩
  item := by
    intro X hP hw hK hc i pins s σ H E I hf st hg
    subst hP hw hK
    obtain ⟨⟨old, he⟩, hit⟩ := st
    obtain ⟨xs, x, hq, hx⟩ := hg
    obtain ⟨its, rv, p, hz⟩ := I.tuple hq
    obtain ⟨u, hu, ru⟩ := rv.get hx
    have hl := rv.length
    have hlt : i < xs.length := (List.getElem?_eq_some_iff.mp hx).1
    have hh : X.A.in1.handled = none := I.ok.hd hc
    have W := GoesN.enumFrom (elts := elts) (x1 := kk) (pos := tpos) 0 (Draws.tuple (prog := X.prog) (w := X.w) hh it a (Ne.symm hia) its.toArray) e hei (by simp [hei, hea]) (by simp)
    refine W.goes i s _ E (by simp; omega) ⟨⟨old, by rw [Int.zero_add]; exact he⟩, hit, p⟩ fun v h' tk hY st' hk htk => ?_
    obtain ⟨T, t, y, rfl, hT, hy, hTup⟩ := hY
    obtain ⟨⟨old', he'⟩, hit', _⟩ := st'
    rw [Int.zero_add] at hTup he'
    have ey : u = y := by
      have h1 : its.toArray[i]? = some y := hy
      have h2 : its[i]? = some y := by simpa using h1
      rw [hu] at h2
      exact Option.some.inj h2
    subst ey
    have new : ObjOk X.prog X.w (upd H T (.tup [.int (i : Nat), x])) h' T (.tup [.int (i : Nat), x]) :=
      ⟨by show 2 ≤ sizeLine; decide, [_, u], .cons ⟨_, rfl⟩ (.cons ru .nil), hTup⟩
    have I1 := I.turnedNew (t' := tk) (ch := [e, it]) (fun d o hd q => hk d o hd q) hf hT new
    refine ⟨.ref T, _, I1, rfl, ⟨T, x, rfl, I.hok.fresh hT, rfl, fun ys hy => by rw [I.tuple_inj hy hq]; exact hx⟩, ⟨⟨old', he'⟩, hit'⟩, fun b hb => ?_⟩
    have hb' : b < s.heap.objs.size := by
      have e' : b = e ∨ b = it := by simpa using hb
      rcases e' with z | z
      · rw [z]; exact Heap.lt_size he
      · rw [z]; obtain ⟨_, q, _⟩ := hit; exact Heap.lt_size q
    rw [upd_ne (Nat.ne_of_lt (Nat.lt_of_lt_of_le hb' hT))]
    exact (hf b hb).1
  done := by
    intro X hP hw hK hc i pins s σ H E I hf st hg
    subst hP hw hK
    obtain ⟨⟨old, he⟩, hit⟩ := st
    obtain ⟨xs, hq, hx⟩ := hg
    obtain ⟨its, rv, p, hz⟩ := I.tuple hq
    have hl := rv.length
    have hh : X.A.in1.handled = none := I.ok.hd hc
    have W := GoesN.enumFrom (elts := elts) (x1 := kk) (pos := tpos) 0 (Draws.tuple (prog := X.prog) (w := X.w) hh it a (Ne.symm hia) its.toArray) e hei (by simp [hei, hea]) (by simp)
    have hi : i = its.toArray.size := by simp; omega
    subst hi
    exact W.stops s _ E ⟨⟨old, by rw [Int.zero_add]; exact he⟩, hit, p⟩ fun h' tk hk htk => I.turnedL (t' := tk) (ch := [e, it]) (fun d o hd q => hk d o hd q) hf
  self := fun A i s Q E st h => let ⟨⟨_, he⟩, _⟩ := st; wpAny_pyIter_enum he h
def iEnumT (K : PySem.W.Frag) (ta : TA) : TI := fun σ H R => ta σ H fun vs H1 => ∃ a xs, vs = [.ref a] ∧ SqT K H1 a xs ∧ R (Iet K a) H1
theorem pi_enumT {X : Cx} {e : Expr} {ta : TA} {p pos tpos : Pos} {elts : List Expr} {kk : Nat} (hg : Gl X "enumerate") (hm : X.mg "enumerate" = none) (ha : PA X [e] ta) (hs : starEach [e] X.env = [(false, eval e X.env)] := by rfl) :
    PI X (.Tuple elts kk tpos) (.Call (.Name "enumerate" p) [e] [] pos) (iEnumT X.K ta) := by
  refine ⟨fun pins s σ H R I h => ?_⟩
  refine Call_ (ld_blt I hg hm boot_enumerate (PyProof.Rows.callWith_type1 (thn (ha.run pos pins s σ H _ I h) fun us s1 ⟨vs, H1, I1, r1, q1⟩ => ?_) hs rfl))
  obtain ⟨a, xs, ex, hq, q⟩ := q1
  subst ex
  cases r1 with
  | cons r rr =>
    cases rr
    cases r
    obtain ⟨its, rv, p', hz⟩ := I1.tuple hq
    have la : a < s1.heap.objs.size := by obtain ⟨o1, g1, _⟩ := id p'; exact Heap.lt_size g1
    refine enum_begins1 (begins_tuple a its.toArray) p' fun h' he hit hsz hk => wpAny_pyIter_enum he ?_
    have I2 : Inv X pins σ H1 { s1 with heap := h' } := I1.kept (t' := s1.toks) hk
    refine ⟨s1.heap.objs.size + 1, [s1.heap.objs.size + 1, s1.heap.objs.size], _, _, H1, rfl, I2, turn_enumT (Nat.succ_ne_self _) (Nat.ne_of_gt (Nat.lt_succ_of_lt la)) (Nat.ne_of_gt la), ⟨⟨.none, he⟩, ⟨_, hit, rfl, rfl⟩⟩, fun b hb => ?_, q⟩
    have e' : b = s1.heap.objs.size + 1 ∨ b = s1.heap.objs.size := by simpa using hb
    have hle : s1.heap.objs.size ≤ b := by
      rcases e' with z | z
      · rw [z]; exact Nat.le_add_right _ _
      · rw [z]; exact Nat.le_refl _
    exact I1.fpOk hle (I1.hok.fresh hle)
theorem for_enumT {K : PySem.W.Frag} {a : Addr} {xs : List V} {g : TG} {tb : TS} {D : Ends} {σ : L2.St} {H : Hp} (Pv : Nat → L2.St → Hp → Prop) (h0 : Pv 0 σ H) (hq : ∀ i σ H, Pv i σ H → SqT K H a xs)
    (hs : ∀ (i : Nat) (x : V) (T : Addr) (σ : L2.St) (H : Hp), xs[i]? = some x → Pv i σ H → H T = none → g (.ref T) σ (upd H T (.tup [.int (i : Nat), x])) fun σ2 H2 => tb { D with nx := Pv (i + 1), ct := Pv (i + 1), bk := D.nx } σ2 H2) (hd : ∀ σ H, Pv xs.length σ H → D.nx σ H) :
    ∃ W : Nat → Nat → L2.St → Hp → Prop, (∃ m, W 0 m σ H) ∧ ∀ i m σ H, W i m σ H →
      ((Iet K a).stop i H ∧ D.nx σ H) ∨ ((Iet K a).go i H ∧ ∃ N : L2.St → Hp → Prop, (∀ σ' H', N σ' H' → ∃ m', m' < m ∧ W (i + 1) m' σ' H') ∧ ∀ v H', (Iet K a).yld i H v H' → g v σ H' fun σ2 H2 => tb { D with nx := N, ct := N, bk := D.nx } σ2 H2) := by
  refine ⟨fun i m σ H => m = xs.length - i ∧ i ≤ xs.length ∧ Pv i σ H, ⟨xs.length, rfl, Nat.zero_le _, h0⟩, ?_⟩
  rintro i m σ H ⟨rfl, hi, p⟩
  have qx := hq i σ H p
  by_cases hlt : i < xs.length
  · refine .inr ⟨⟨xs, xs[i], qx, List.getElem?_eq_getElem hlt⟩, Pv (i + 1), fun σ' H' p' => ⟨xs.length - (i + 1), by omega, rfl, hlt, p'⟩, fun v H' y => ?_⟩
    obtain ⟨T, x', rfl, hT, rfl, f1⟩ := y
    exact hs i x' T σ H (f1 xs qx) p hT
  · have e : i = xs.length := by omega
    subst e
    exact .inl ⟨⟨xs, qx, rfl⟩, hd σ H p⟩
/-! ### xs == [] -/
def rEqNil (K : PySem.W.Frag) : R2 := fun x y H Q => ∃ a b xs, x = .ref a ∧ y = .ref b ∧ SqL K H a xs ∧ SqL K H b [] ∧ Q (.bl xs.isEmpty) H
theorem op_eqNil {X : Cx} (hu : X.A.units + 64 < cLine) : OpR X (compareOp .Eq) (rEqNil X.K) := by
  intro pins s σ H x y v u Q I rx ry h
  obtain ⟨a, b, xs, rfl, rfl, ha, hb, q⟩ := h
  cases rx
  cases ry
  obtain ⟨its, rv, p, _⟩ := I.list ha
  obtain ⟨its2, rv2, p2, _⟩ := I.list hb
  cases rv2
  cases xs with
  | nil =>
    cases rv
    refine SeqAt.eq_listAt (e := fun _ => true) p.isList p2.isList rfl (by omega) (fun j h1 _ => absurd h1 (Nat.not_lt_zero _)) ?_
    exact ⟨.bl _, H, I, rfl, q⟩
  | cons x xs =>
    have hl := rv.length
    refine SeqAt.eq_list_lengthsAt p.isList p2.isList ?_ (by omega) ?_
    · rw [bne_iff_ne]
      simp only [List.size_toArray, List.length_nil]
      rw [← hl]
      simp
    · exact ⟨.bl _, H, I, rfl, q⟩
def rNeNil (K : PySem.W.Frag) : R2 := fun x y H Q => ∃ a b xs, x = .ref a ∧ y = .ref b ∧ SqL K H a xs ∧ SqL K H b [] ∧ Q (.bl (!xs.isEmpty)) H
section
variable {X : Cx} {K : PySem.W.Frag}
theorem op_eqNilk (hK : X.K = K) (hu : X.A.units + 64 < cLine) : OpR X (compareOp .Eq) (rEqNil K) := hK ▸ op_eqNil hu
theorem op_catTBk (hK : X.K = K) : OpR X (binaryOp .Add) (rCatTB K) := hK ▸ op_catTB
theorem call_reprk (hK : X.K = K) (hg : X.A.guards = some []) (hu : X.A.units + 64 < cLine) : CallR X (.builtin "repr") (rReprF K) := hK ▸ call_repr hg hu
theorem sl_tupBk (hK : X.K = K) : SlR X (rSlTB K) := hK ▸ sl_tupB
end
theorem acc_new {H5 H' : Hp} {pD : Addr} {ws : List V} {y : V} (nD : H5 pD = none) (t1 : Same H5 H') (e : H' pD = some (.lst ws)) (len : ws.length ≤ 900) :
    ∃ acc, H' pD = some (.lst acc) ∧ acc.length < sizeLine ∧ Same H5 (upd H' pD (.lst (acc ++ [y]))) ∧ (upd H' pD (.lst (acc ++ [y]))) pD = some (.lst (ws ++ [y])) := by
  refine ⟨ws, e, small1000 (by omega), fun b o z => ?_, upd_same⟩
  rw [upd_ne (ne_of_none z nD)]
  exact t1 _ _ z
theorem Same.seq {K : PySem.W.Frag} {H H' : Hp} {a : Addr} {xs : List V} (s : Same H H') (h : SqL K H a xs) : SqL K H' a xs := by
  rcases h with (h | ⟨o, h⟩) | h
  · exact .inl (.inl (s _ _ h))
  · exact .inl (.inr ⟨o, s _ _ h⟩)
  · exact .inr h
/-- a promise that nothing keeps: for a def's own calls at its last level -/
def spNever : Sp := fun _ _ _ _ => False
theorem never {P : Program} {w : World} {K : PySem.W.Frag} {mg : Str → Option Value} {base : Heap} {k : Nat} {f : Addr} {fd : FuncData} {ps : List Str} : FnG P w K mg base CX0 k f fd ps spNever :=
  ⟨fun _ _ _ _ h => h.elim, fun _ _ _ _ _ _ _ _ _ _ _ _ _ h => h.elim⟩
end Cl

namespace Cl
open PySem PySem.Spec PyProof.Rows L2
open GxR (TabB TabG Tabbed GenS inv_tab sh_eta)
/-! ### a tuple of tuples, walked -/
theorem letOwned_tupleiter {prog : Program} {w : World} {A : Around} {E : Value → Shared → Prop} {s : Shared} {elts : List Expr} {x1} {pos : Pos} {I l T : Addr} {i : Nat} {Q : Unit → Shared → Prop} (hit : s.heap.IsTupleIter I l i) (hQ : Q () s) :
    wpAny (model prog w) A (letOwnedTupleGo (.Tuple elts x1 pos) (.ref I) (.ref T)) Q E s := by
  obtain ⟨o, ho, hc, hd⟩ := hit
  unfold letOwnedTupleGo
  refine wpAny_bind (wpAny_load ho ?_)
  rw [hc, hd]
  show wpAny _ A (if (["enumerate", "zip", "dict_itemiterator", "dict_reverseitemiterator", "odict_iterator", "itertools.zip_longest", "itertools.pairwise"].contains "tuple_iterator" &&
      (#[.ref l, .int i 0] : Array Value)[0]? == some (rawInt T)) = true then _ else _) Q E s
  rw [if_neg (by
    intro h
    rw [show (["enumerate", "zip", "dict_itemiterator", "dict_reverseitemiterator", "odict_iterator", "itertools.zip_longest", "itertools.pairwise"].contains "tuple_iterator") = false from by decide, Bool.false_and] at h
    cases h)]
  exact wpAny_pure hQ
theorem walksTT {prog : Program} {w : World} {A : Around} (hh : A.handled = none) (I ax : Addr) (hne : ax ≠ I) (items : Array Value) (Ts : Nat → Addr) (vals : Nat → Array Value)
    (hit : ∀ j, j < items.size → items[j]? = some (.ref (Ts j))) (hTI : ∀ j, j < items.size → Ts j ≠ I) :
    WalksU prog w A I (I :: ax :: (List.range items.size).map Ts) [I] items.size (fun j v => j < items.size ∧ v = vals j)
      (fun j h => h.IsTupleIter I ax j ∧ h.IsTuple ax items ∧ ∀ k, k < items.size → h.IsTuple (Ts k) (vals k))
      (fun j T h => (j < items.size ∧ T = Ts j) ∧ h.IsTupleIter I ax (j + 1) ∧ h.IsTuple ax items ∧ ∀ k, k < items.size → h.IsTuple (Ts k) (vals k)) where
  sub := fun b hb => by simp at hb; simp [hb]
  frame := fun _ _ _ st hk => ⟨st.1.at fun o e => hk I (by simp) o e, st.2.1.at fun o e => hk ax (by simp) o e,
    fun k hk' => (st.2.2 k hk').at fun o e => hk (Ts k) (List.mem_cons_of_mem _ (List.mem_cons_of_mem _ (List.mem_map.mpr ⟨k, List.mem_range.mpr hk', rfl⟩))) o e⟩
  item := fun i s Q E hi st hQ => by
    refine wpAny_pyNext_tuple_item st.1 st.2.1 (x := .ref (Ts i)) (hit i hi) fun h' hit' hs' => ?_
    have tup : ∀ k, k < items.size → h'.IsTuple (Ts k) (vals k) := fun k hk' => (st.2.2 k hk').extBut hs'.extBut (hTI k hk')
    exact hQ (Ts i) (vals i) h' s.toks ⟨hi, rfl⟩ (tup i hi) ⟨⟨hi, rfl⟩, hit', st.2.1.extBut hs'.extBut hne, tup⟩ fun b o hb e => hs'.extBut b o (fun h => hb (by simp [h])) e
  go := fun _ _ _ _ _ s Q _ hm hQ => letOwned_tupleiter hm.2.1 (hQ s.heap hm.2 fun _ _ _ e => e)
  apart := fun j T _ hm hmem => by
    rcases List.mem_cons.mp hmem with e | e
    · exact hTI j hm.1.1 (hm.1.2 ▸ e)
    · cases e
  done := fun s Q E st hQ => wpAny_pyNext_tuple_end hh st.1 st.2.1 (by simp) fun h' he' => hQ h' s.toks fun b o hb e => he' b o (fun h => hb (by simp [h])) e
  self := fun _ _ _ _ st hQ => wpAny_pyIter_tupleiter st.1 hQ
/-! ### expressions of whole numbers, evaluated quietly -/
def Sees (P : Program) (w : World) (env : Env) (h : Heap) (e : Expr) (v : V) : Prop :=
  ∀ (A : Around) (E : Value → Shared → Prop) (Q : Value → Shared → Prop) (s : Shared), s.heap = h → (∀ u k, RelV v u → Q u { s with toks := k }) → wpAny (model P w) A (eval e env) Q E s
section
variable {P : Program} {w : World} {env : Env} {h : Heap} {x : Str} {a b : Expr} {i j : Int} {pos : Pos}
theorem sees_loc {m : Str → Option Value} {t : Tok} (hk : env.scope.kind = .function) (hl : env.scope.names.lookup x = some .local) (hn : h.Ns env.locals m) (hm : m x = some (.int i t)) (hd : (x == ("__debug__" : Str)) = false := by decide) : Sees P w env h (.Name x pos) (.int i) :=
  fun A E Q s hs q => wpAny_Name (wpAny_loadName_local hk hl (hs ▸ hn) hm (q _ s.toks ⟨t, rfl⟩)) hd
theorem sees_free {c : Addr} {t : Tok} (hk : env.scope.kind = .function) (hl : env.scope.names.lookup x = some .free) (hc : env.cells.lookup x = some c) (hv : h.IsCell c (some (.int i t))) (hd : (x == ("__debug__" : Str)) = false := by decide)
    (hcd : (x == ("__classdict__" : Str)) = false := by decide) : Sees P w env h (.Name x pos) (.int i) :=
  fun A E Q s hs q => wpAny_Name (wpAny_loadName_free hk hl hc (hs ▸ hv) (q _ s.toks ⟨t, rfl⟩) hcd) hd
theorem sees_int {k : Nat} : Sees P w env h (.Constant (.int i) k pos) (.int i) := fun A E Q s hs q => wpAny_Constant_int (q _ _ ⟨_, rfl⟩)
theorem sees_add (ha : Sees P w env h a (.int i)) (hb : Sees P w env h b (.int j)) : Sees P w env h (.BinOp a .Add b pos) (.int (i + j)) := fun A E Q s hs q => by
  refine wpAny_BinOp (ha A _ _ s hs fun u k r => hb A _ _ _ hs fun u' k' r' => ?_)
  obtain ⟨t, rfl⟩ := r
  obtain ⟨t', rfl⟩ := r'
  exact add_int (q _ _ ⟨_, rfl⟩)
theorem sees_mul (ha : Sees P w env h a (.int i)) (hb : Sees P w env h b (.int j)) (c : IntMulOk i j) : Sees P w env h (.BinOp a .Mult b pos) (.int (i * j)) := fun A E Q s hs q => by
  refine wpAny_BinOp (ha A _ _ s hs fun u k r => hb A _ _ _ hs fun u' k' r' => ?_)
  obtain ⟨t, rfl⟩ := r
  obtain ⟨t', rfl⟩ := r'
  exact mul_int (q _ _ ⟨_, rfl⟩) c
theorem sees_lt (ha : Sees P w env h a (.int i)) (hb : Sees P w env h b (.int j)) : Sees P w env h (.Compare a [.Lt] [b] pos) (.bl (decide (i < j))) := fun A E Q s hs q => by
  refine wpAny_Compare1 (ha A _ _ s hs fun u k r => hb A _ _ _ hs fun u' k' r' => ?_) (nomark b)
  obtain ⟨t, rfl⟩ := r
  obtain ⟨t', rfl⟩ := r'
  exact lt_int (q _ _ rfl)
theorem sees_gt (ha : Sees P w env h a (.int i)) (hb : Sees P w env h b (.int j)) : Sees P w env h (.Compare a [.Gt] [b] pos) (.bl (decide (j < i))) := fun A E Q s hs q => by
  refine wpAny_Compare1 (ha A _ _ s hs fun u k r => hb A _ _ _ hs fun u' k' r' => ?_) (nomark b)
  obtain ⟨t, rfl⟩ := r
  obtain ⟨t', rfl⟩ := r'
  exact gt_int (q _ _ rfl)
theorem sees_ge (ha : Sees P w env h a (.int i)) (hb : Sees P w env h b (.int j)) : Sees P w env h (.Compare a [.GtE] [b] pos) (.bl (decide (j ≤ i))) := fun A E Q s hs q => by
  refine wpAny_Compare1 (ha A _ _ s hs fun u k r => hb A _ _ _ hs fun u' k' r' => ?_) (nomark b)
  obtain ⟨t, rfl⟩ := r
  obtain ⟨t', rfl⟩ := r'
  exact ge_int (q _ _ rfl)
end
theorem cl_lookup {cells : List (Str × Addr)} {names : List (Str × NameKind)} {n : Str} {c : Addr} (h : (n, NameKind.free) ∈ names) (hc : cells.lookup n = some c) : (cloFrom cells names []).lookup n = some c := by
  have hm := cloFrom_has (cells := cells) (acc := []) h
  cases q : (cloFrom cells names []).lookup n with
  | none =>
    have : ∀ (L : List (Str × Addr)), L.lookup n = none → ∀ c, (n, c) ∉ L := fun L => by
      induction L with
      | nil => intro _ c z; cases z
      | cons y L ih =>
        obtain ⟨y1, y2⟩ := y
        intro e c z
        rw [List.lookup_cons] at e
        split at e
        · cases e
        · rename_i hb
          rcases List.mem_cons.mp z with z | z
          · cases z
            simp at hb
          · exact ih e c z
    exact absurd hm (this _ q _)
  | some c' =>
    have : ∀ (L : List (Str × Addr)) c', L.lookup n = some c' → (n, c') ∈ L := fun L => by
      induction L with
      | nil => intro c' z; cases z
      | cons y L ih =>
        obtain ⟨y1, y2⟩ := y
        intro c' e
        rw [List.lookup_cons] at e
        split at e
        · rename_i hb
          cases e
          rw [eq_of_beq hb]
          exact List.mem_cons_self ..
        · exact List.mem_cons_of_mem _ (ih _ e)
    rcases cloFrom_mem (this _ _ q) with z | ⟨_, z⟩
    · cases z
    · rw [z, hc]
      rfl
/-- a captured whole number -/
def CapI (cells : List (Str × Addr)) (h : Heap) (n : Str) (i : Int) : Prop := ∃ c t, cells.lookup n = some c ∧ h.IsCell c (some (.int i t))

theorem CapI.keeps {cells : List (Str × Addr)} {h h' : Heap} {n : Str} {i : Int} {P : Addr} {vs : Array Value} (x : CapI cells h n i) (hP : ∃ o, h.get? P = some o ∧ o.data = .fields vs) (k : ∀ b o, b ≠ P → h.get? b = some o → h'.get? b = some o) : CapI cells h' n i := by
  obtain ⟨c, t, e, o, g, d⟩ := x
  refine ⟨c, t, e, o, k c o (fun z => ?_) g, d⟩
  obtain ⟨o', g', d'⟩ := hP
  rw [z, g'] at g
  cases g
  rw [d] at d'
  cases d'
/-- the element: a test of the pair (x, y) and three captured whole numbers -/
def EltP (P : Program) (w : World) (scope : Scope) (xa xb n1 n2 n3 : Str) (elt : Expr) (C : Int → Int → Int → Int × Int → Prop) (f : Int → Int → Int → Int × Int → Bool) : Prop :=
  ∀ (cenv : Env) (h : Heap) (i1 i2 i3 x y : Int) (tx ty : Tok) (m : Str → Option Value), cenv.scope = scope → CapI cenv.cells h n1 i1 → CapI cenv.cells h n2 i2 → CapI cenv.cells h n3 i3 →
    h.Ns cenv.locals m → m xa = some (.int x tx) → m xb = some (.int y ty) → C i1 i2 i3 (x, y) → Sees P w cenv h elt (.bl (f i1 i2 i3 (x, y)))
structure GenP (env : Env) (scope : Scope) (xa xb n1 n2 n3 : Str) : Prop where
  kind : scope.kind = .function
  co : scope.isCoroutine = false
  cell : ∀ y ∈ scope.names, y.2 ≠ .cell
  dot : scope.names.lookup (".0" : Str) = some NameKind.local
  la : scope.names.lookup xa = some .local
  lb : scope.names.lookup xb = some .local
  ab : xa ≠ xb
  f1 : (n1, NameKind.free) ∈ scope.names
  f2 : (n2, NameKind.free) ∈ scope.names
  f3 : (n3, NameKind.free) ∈ scope.names
  free : ∀ y ∈ scope.names, y.2 = .free → y.1 = n1 ∨ y.1 = n2 ∨ y.1 = n3
  c1 : env.scope.names.lookup n1 = some .cell
  c2 : env.scope.names.lookup n2 = some .cell
  c3 : env.scope.names.lookup n3 = some .cell
  e1 : (env.cells.lookup n1).isSome = true
  e2 : (env.cells.lookup n2).isSome = true
  e3 : (env.cells.lookup n3).isSome = true
def tAllP (K : PySem.W.Frag) (P : Addr) (s1 s2 s3 : Nat) (C : Int → Int → Int → Int × Int → Prop) (f : Int → Int → Int → Int × Int → Bool) (te : TE) : TE := fun σ H Q => te σ H fun v H1 => ∃ (a : Addr) (vs : List V) (ps : List (Int × Int)) (i1 i2 i3 : Int), v = .ref a ∧ SqT K H1 a vs ∧ AllAt (At2 K H1) vs ps ∧
  σ[s1]? = some (some (.int i1)) ∧ σ[s2]? = some (some (.int i2)) ∧ σ[s3]? = some (some (.int i3)) ∧ (∀ p ∈ ps, C i1 i2 i3 p) ∧ TabG H1 P ∧ ∀ H2, Same H1 H2 → TabG H2 P → Q (.bl (ps.all (f i1 i2 i3))) H2
theorem cap_of {X : Cx} {pins : List (Addr × Obj)} {σ : L2.St} {H : Hp} {s : Shared} {i : Nat} {n : Str} {z : Int} (I : Inv X pins σ H s) (hN : X.N[i]? = some n) (hc : X.env.scope.names.lookup n = some .cell) (e : σ[i]? = some (some (.int z))) :
    CapI X.env.cells s.heap n z := by
  obtain ⟨m, hn, hl⟩ := I.loc
  obtain ⟨u, r, l⟩ := hl i n _ hN e (.inr (.inl hc))
  obtain ⟨t, rfl⟩ := r
  rcases l with ⟨hk, _⟩ | ⟨_, c, hc', hcell⟩
  · have : X.env.scope.names.lookup n = some .local := hk
    rw [hc] at this
    cases this
  · exact ⟨c, t, hc', hcell⟩

section
variable {X : Cx}
theorem pe_allP {c P : Addr} {elt iter : Expr} {xa xb n1 n2 n3 : Str} {pa pb pt p pos gpos : Pos} {kt : Nat} {scope : Scope} {te : TE} {k s1 s2 s3 : Nat} {C : Int → Int → Int → Int × Int → Prop} {f : Int → Int → Int → Int × Int → Bool}
    (hr : Room k X.A) (hg : Gl X "all") (hm : X.mg "all" = none) (TB : TabB X.base X.mg c P) (hcode : X.env.code = .ref c) (hi : PE X iter te) (S : GenP X.env scope xa xb n1 n2 n3)
    (hN1 : X.N[s1]? = some n1) (hN2 : X.N[s2]? = some n2) (hN3 : X.N[s3]? = some n3) (hel : EltP X.prog X.w scope xa xb n1 n2 n3 elt C f)
    (hs : ∀ v, genFold iter X.env v = pure v := by intro _; rfl)
    (he : starEach [.GeneratorExp elt [⟨.Tuple [.Name xa pa, .Name xb pb] kt pt, iter, [], 0⟩] scope gpos] X.env = (false, eval (.GeneratorExp elt [⟨.Tuple [.Name xa pa, .Name xb pb] kt pt, iter, [], 0⟩] scope gpos) X.env) :: starEach [] X.env := by rfl) :
    PE X (.Call (.Name "all" p) [.GeneratorExp elt [⟨.Tuple [.Name xa pa, .Name xb pb] kt pt, iter, [], 0⟩] scope gpos] [] pos) (tAllP X.K P s1 s2 s3 C f te) := by
  have isS : ∀ {o : Option Addr}, o.isSome = true → ∃ c, o = some c := fun {o} h => by cases o with
    | none => cases h
    | some c => exact ⟨c, rfl⟩
  have hfree : ∀ y ∈ scope.names, y.2 = .free → ∃ c, X.env.cells.lookup y.1 = some c := fun y hy e => by
    rcases S.free y hy e with z | z | z <;> rw [z]
    · exact isS S.e1
    · exact isS S.e2
    · exact isS S.e3
  refine ⟨fun pins s σ H Q I h => ?_⟩
  refine wpAny_Call_Name_kw (ld_blt I hg hm PyProof.Rows.boot_all ?_)
  refine PyProof.Rows.callWith_builtin1 ?_ he (by rfl)
  rw [he]
  show wpAny _ _ (spliced ((false, eval (.GeneratorExp elt [⟨.Tuple [.Name xa pa, .Name xb pb] kt pt, iter, [], 0⟩] scope gpos) X.env) :: backTo pos (starEach [] X.env))) _ _ s
  refine Calls.spliced_cons ?_
  refine wpAny_GeneratorExp_walksQTD hr.hd S.co (closure_ok hfree) S.cell S.dot S.la S.lb S.ab S.kind (by have := hr.dp; omega) ?_ hs
  refine thn (hi.run pins s σ H _ I h) fun xv s1' ⟨v, H1, I1, r1, q1⟩ => ?_
  obtain ⟨a, vs, prs, i1, i2, i3, rfl, hS, hall, g1, g2, g3, hC, hT, q⟩ := q1
  cases r1
  have k1 := cap_of I1 hN1 S.c1 g1
  have k2 := cap_of I1 hN2 S.c2 g2
  have k3 := cap_of I1 hN3 S.c3 g3
  have cl : ∀ {n : Str} {i : Int}, (n, NameKind.free) ∈ scope.names → CapI X.env.cells s1'.heap n i → CapI (cloFrom X.env.cells scope.names []) s1'.heap n i := fun h ⟨c, t, e, z⟩ => ⟨c, t, cl_lookup h e, z⟩
  replace k1 := cl S.f1 k1
  replace k2 := cl S.f2 k2
  replace k3 := cl S.f3 k3
  clear cl
  obtain ⟨ps, hP, ht⟩ := id hT
  obtain ⟨its, rv, tup, hz⟩ := I1.tuple hS
  have lx := rv.length
  have lp := hall.length
  have hpair : ∀ j, ∃ z : Addr × Array Value, j < its.length → ∃ x y t1 t2, its[j]? = some (.ref z.1) ∧ s1'.heap.IsTuple z.1 z.2 ∧ z.2 = #[.int x t1, .int y t2] ∧ prs[j]? = some (x, y) := fun j => by
    by_cases hj : j < its.length
    · obtain ⟨u, eu, ru⟩ := rv.get (List.getElem?_eq_getElem (show j < vs.length by omega))
      obtain ⟨pr, ep, b, eb, hb⟩ := hall.get (List.getElem?_eq_getElem (show j < vs.length by omega))
      rw [eb] at ru
      cases ru
      obtain ⟨its2, rv2, tup2, _⟩ := I1.tuple hb
      cases rv2 with
      | cons r1 rr =>
        cases rr with
        | cons r2 rr =>
          cases rr
          obtain ⟨t1, rfl⟩ := r1
          obtain ⟨t2, rfl⟩ := r2
          exact ⟨(b, #[.int pr.1 t1, .int pr.2 t2]), fun _ => ⟨pr.1, pr.2, t1, t2, eu, tup2, rfl, ep⟩⟩
    · exact ⟨(0, #[]), fun z => absurd z hj⟩
  obtain ⟨F, hF⟩ := Classical.skolem.mp hpair
  refine wpAny_pyIter_tuple tup ?_
  have hPs : s1'.heap.get? P = some { cls := .none, data := .fields ps } := I1.hok P _ hP
  have hPlt : P < s1'.heap.objs.size := Heap.lt_size hPs
  have halt : a < s1'.heap.objs.size := by obtain ⟨o, e, _⟩ := id tup; exact Heap.lt_size e
  have haP : a ≠ P := fun e => by
    obtain ⟨o, e1, e2, _⟩ := id tup
    rw [e, hPs] at e1
    cases e1
    cases e2
  have hTlt : ∀ j, j < its.length → (F j).1 < s1'.heap.objs.size ∧ (F j).1 ≠ P := fun j hj => by
    obtain ⟨_, _, _, _, _, tj, _, _⟩ := hF j hj
    obtain ⟨o, e1, e2, _⟩ := id tj
    refine ⟨Heap.lt_size e1, fun e => ?_⟩
    rw [e, hPs] at e1
    cases e1
    cases e2
  generalize hito : ({ cls := .type "tuple_iterator", data := .fields #[.ref a, .int 0 0] } : Obj) = ito
  have hP2 : (s1'.heap.push ito).get? P = some { cls := .none, data := .fields ps } := Heap.get?_push_of_some _ hPs
  have cd : PySem.W.CodeHd (s1'.heap.push ito) c P := TB.code.keeps fun b u e => Heap.get?_push_of_some _ (I1.bk b u e)
  have lim2 : (s1'.heap.push ito).NoLimit := I1.nolimit.push ito
  have sz2 : (s1'.heap.push ito).objs.size = s1'.heap.objs.size + 1 := Heap.size_push ..
  have cont : ∀ (code : Value) (h3 : Heap) (tk : Nat) (ps' : Array Value), Heap.ExtBut P (s1'.heap.push ito) h3 → (s1'.heap.push ito).objs.size ≤ h3.objs.size → h3.get? P = some { cls := .none, data := .fields ps' } → (∃ more, ps' = ps ++ more) → TriplesOk ps'.toList →
      wpAny (model X.prog X.w) X.A (builtinsFor X.env.globals X.env.builtins) (fun bi s₄ =>
        ∃ Ia fp wr n₀ Pt St₀ Mid pz F, Value.ref s1'.heap.objs.size = .ref Ia ∧ (∀ A' : Around, A'.handled = none → WalksU X.prog X.w A' Ia fp wr n₀ Pt St₀ Mid) ∧ (∀ i vals, Pt i vals → ∃ va vb, vals = #[va, vb]) ∧ St₀ 0 s₄.heap ∧ (∀ b ∈ fp, b < s₄.heap.objs.size) ∧ s₄.heap.NoLimit ∧ cStatics ∉ wr ∧
          (∀ href : Heap, (∀ b o, s₄.heap.get? b = some o → href.get? b = some o) →
            QuietGenTD X.prog X.w (genEnv scope (cloFrom X.env.cells scope.names []) s₄.heap.objs.size code bi X.env) xa xb [] elt (List.range s₄.heap.objs.size) wr Pt pz F href (X.A.depth + 1) (X.A.units + 8)) ∧
          (∀ a h₅ tk gs, gs.bare = true → s₄.heap.objs.size < a → h₅.objs.size = a + 1 → (∀ b o, s₄.heap.get? b = some o → h₅.get? b = some o) →
            WalksS X.prog X.w X.A.in4 a (a :: s₄.heap.objs.size :: List.range s₄.heap.objs.size) (s₄.heap.objs.size :: wr) (GenOnlyQ s₄.gens.size) (passing pz n₀ 0).length
              (fun j y => ∃ i, (passing pz n₀ 0)[j]? = some i ∧ F i y) (GenAt X.prog X.w X.A.in4 a s₄.gens.size s₄.heap.objs.size (List.range s₄.heap.objs.size) wr pz n₀ F) →
            GenAt X.prog X.w X.A.in4 a s₄.gens.size s₄.heap.objs.size (List.range s₄.heap.objs.size) wr pz n₀ F 0 { s₄ with gens := s₄.gens.push gs, toks := tk, heap := h₅ } →
            wpAny (model X.prog X.w) X.A (spliced (backTo pos (starEach [] X.env))) (fun vs s2 => wpAny (model X.prog X.w) X.A (call (.builtin "all") (.ref a :: vs)) (EP X pins σ Q) X.xe s2) X.xe { s₄ with gens := s₄.gens.push gs, toks := tk, heap := h₅ })) X.xe { s1' with heap := h3, toks := tk } := by
    intro code h3 tk ps' hx hsz hP3 hmore ht3
    obtain ⟨bm, ob, e1, e2, e3, e4, e5, e6, e7, e8⟩ := TB.bm
    have keep3 : ∀ b u, b ≠ P → s1'.heap.get? b = some u → h3.get? b = some u := fun b u hb e => hx b u hb (Heap.get?_push_of_some _ e)
    have hcP : cStatics ≠ P := fun e => by
      obtain ⟨_, hns, _⟩ := I1.nolimit
      obtain ⟨o', es, ep, ho, hd, _⟩ := hns
      rw [e, hPs] at ho
      cases ho
      cases hd
    have hcl : cStatics < s1'.heap.objs.size := let ⟨_, hns, _⟩ := I1.nolimit; hns.lt
    have szle : s1'.heap.objs.size < h3.objs.size := by rw [sz2] at hsz; exact hsz
    refine wpAny_builtinsFor (m := X.mg) (by rw [I1.ok.glob]; exact ((I1.mod.glob.keeps I1.bk).push ito).extBut hx TB.gP) e1 e2 (keep3 _ _ e4 (I1.bk _ _ e5)) e6 e7 e8 ?_
    refine ⟨s1'.heap.objs.size, _, [s1'.heap.objs.size], its.toArray.size, _, _, _, (fun _ => true), (fun i y => i < its.toArray.size ∧ y = .bool (f i1 i2 i3 (prs.getD i (0, 0)))), rfl,
      fun A' hA => walksTT hA s1'.heap.objs.size a (Nat.ne_of_lt halt) its.toArray (fun j => (F j).1) (fun j => (F j).2) (fun j hj => ?_) (fun j hj => ?_), ?_, ⟨?_, ?_, ?_⟩, ?_, lim2.extBut hx hcP, ?_, ?_, ?_⟩
    · have hj : j < its.length := by simpa using hj
      obtain ⟨_, _, _, _, ej, _⟩ := hF j hj
      simpa using ej
    · have hj : j < its.length := by simpa using hj
      exact Nat.ne_of_lt (hTlt j hj).1
    · rintro i vals ⟨hi', rfl⟩
      have hi' : i < its.length := by simpa using hi'
      obtain ⟨x, y, t1, t2, _, _, e, _⟩ := hF i hi'
      exact ⟨_, _, e⟩
    · refine ⟨ito, hx _ _ (fun z => Nat.ne_of_lt hPlt z.symm) (Heap.get?_push_size _ (by rw [← hito]; rfl)), by rw [← hito], by rw [← hito]; rfl⟩
    · obtain ⟨o, g1, g2, g3⟩ := id tup
      exact ⟨o, keep3 a o haP g1, g2, g3⟩
    · intro j hj
      have hj : j < its.length := by simpa using hj
      obtain ⟨_, _, _, _, _, ⟨o, g1, g2, g3⟩, _⟩ := hF j hj
      exact ⟨o, keep3 _ o (hTlt j hj).2 g1, g2, g3⟩
    · intro b hb
      show b < h3.objs.size
      rcases List.mem_cons.mp hb with z | z
      · rw [z]; exact szle
      · rcases List.mem_cons.mp z with z | z
        · rw [z]; exact Nat.lt_trans halt szle
        · obtain ⟨j, hj, rfl⟩ := List.mem_map.mp z
          have hj : j < its.length := by simpa using hj
          exact Nat.lt_trans (hTlt j hj).1 szle
    · intro z
      rw [List.mem_singleton.mp z] at hcl
      exact Nat.lt_irrefl _ hcl
    · intro href hhref
      refine ⟨fun A' E' i va vb s₂ m₂ hA hD hU hPv hn hma hmb hk => ?_, fun A' E' i va vb s₂ m₂ hA hD hU hPv hp hn hma hmb hk => ?_⟩
      · simp only [List.forIn_nil]
        exact wpAny_pure ⟨rfl, GxR.keeps_refl _⟩
      · have key : ∀ b o, b ≠ P → s1'.heap.get? b = some o → s₂.heap.get? b = some o := fun b o hb e =>
          hk b (List.mem_range.mpr (Heap.lt_size (keep3 b o hb e))) (fun z => by
            have l := Heap.lt_size e
            rw [List.mem_singleton.mp z] at l
            exact Nat.lt_irrefl _ l) o (hhref b o (keep3 b o hb e))
        obtain ⟨hi0, ev⟩ := hPv
        have hi' : i < its.length := by simpa using hi0
        obtain ⟨x, y, t1, t2, _, _, e, ep⟩ := hF i hi'
        rw [e] at ev
        cases ev
        have hPd : ∃ o, s1'.heap.get? P = some o ∧ o.data = .fields ps := ⟨_, hPs, rfl⟩
        have see := hel (genEnv scope (cloFrom X.env.cells scope.names []) h3.objs.size code builtinsNs X.env) s₂.heap i1 i2 i3 x y t1 t2 m₂ rfl (k1.keeps hPd key) (k2.keeps hPd key) (k3.keeps hPd key) hn hma hmb (hC _ (List.mem_of_getElem? ep))
        refine see A' E' _ s₂ rfl fun u kk r => ?_
        cases r
        refine ⟨⟨hi0, ?_⟩, GxR.keeps_tok _ _⟩
        rw [List.getD_eq_getElem?_getD, ep]
        rfl
    · intro g h5 tk5 gs hgb hag hsz5 hk5 W5 hat
      simp only [GxR.passing_true, List.length_range] at W5
      refine Calls.spliced_nil ?_
      have W := W5.in4_1
      refine call_all_walkS (W.self 0 _ _ _ hat ⟨g, _, _, _, _, _, _, fun j => f i1 i2 i3 (prs.getD j (0, 0)), rfl, W, hat, ?_, fun s' hm => ?_⟩)
      · intro j y sj Qj Ej hy hQj
        obtain ⟨i, hij, hi2, rfl⟩ := hy
        try rw [GxR.passing_true] at hij
        obtain ⟨hj, ej⟩ := List.getElem?_eq_some_iff.mp hij
        rw [List.getElem_range] at ej
        subst ej
        exact wpAny_truthy_bool hQj
      · obtain ⟨more, em⟩ := hmore
        have nwr : ∀ b u, s1'.heap.get? b = some u → b ∉ h3.objs.size :: [s1'.heap.objs.size] := fun b u e hb => by
          have hl := Heap.lt_size e
          simp only [List.mem_cons, List.not_mem_nil, or_false] at hb
          rcases hb with z | z
          · rw [z] at hl
            have h9 : (h3.objs.size : Nat) < s1'.heap.objs.size := hl
            omega
          · rw [z] at hl
            exact Nat.lt_irrefl _ hl
        have J := inv_tab (more := more) (h' := s'.heap) (g' := s'.gens) (d' := s'.drawn) (t' := s'.toks) I1 hP (fun b u hb e => hm.heap b u (nwr b u e) (hk5 b u (keep3 b u hb e)))
          (by rw [← em]; exact hm.heap P _ (nwr P _ hPs) (hk5 P _ hP3)) (AllBare.movedS (I1.bare.push hgb) hm)
        rw [sh_eta s1' s' hm.os] at J
        have tb : Tabbed P H1 (upd H1 P (.tbl (ps ++ more))) := ⟨⟨ps ++ more, upd_same, by rw [← em]; exact ht3⟩, fun b hb => upd_ne hb⟩
        refine ⟨.bl _, _, J, ?_, q _ (Same.tabbed hT tb) tb.1⟩
        show Value.bool _ = Value.bool _
        have hall2 := all_range (prs.map (f i1 i2 i3))
        rw [List.length_map, List.all_map] at hall2
        have e9 : (List.range its.toArray.size).all (fun j => f i1 i2 i3 (prs.getD j (0, 0))) = (List.range prs.length).all fun j => (prs.map (f i1 i2 i3)).getD j false := by
          rw [show its.toArray.size = prs.length by simp; omega, Bool.eq_iff_iff, List.all_eq_true, List.all_eq_true]
          constructor
          · intro z j hj
            have := z j hj
            have hj := List.mem_range.mp hj
            rw [List.getD_eq_getElem?_getD, List.getElem?_eq_getElem hj] at this
            rw [List.getD_eq_getElem?_getD, List.getElem?_map, List.getElem?_eq_getElem hj]
            exact this
          · intro z j hj
            have := z j hj
            have hj := List.mem_range.mp hj
            rw [List.getD_eq_getElem?_getD, List.getElem?_map, List.getElem?_eq_getElem hj] at this
            rw [List.getD_eq_getElem?_getD, List.getElem?_eq_getElem hj]
            exact this
        rw [e9, hall2]
        rfl
  refine ⟨lim2, ?_⟩
  cases hf : codeAmong gpos ps.toList with
  | none =>
    refine wpAny_genexprCodeX hcode (cd.code hP2 ht) (cd.tab hP2) hf fun c' h' tk hx hge hlt hco' _ htab' _ => ?_
    obtain ⟨o1, vs, f1, tf, fl, tg, inF, tx, tt, op, _, _, _, _, _, _, _, _, _, htr, _⟩ := hco'
    exact cont _ h' tk _ hx (Nat.le_trans hge (Nat.le_of_lt hlt)) htab'.2 ⟨_, rfl⟩ htr
  | some cv =>
    refine wpAny_genexprCode_hit hcode (cd.code hP2 ht) hf ?_
    exact cont cv (s1'.heap.push ito) s1'.toks ps (Heap.ExtBut.refl _ _) (Nat.le_refl _) hP2 ⟨#[], by simp⟩ ht
end
/-! ### thing == () -/
def rEqTNil (K : PySem.W.Frag) : R2 := fun x y H Q => ∃ a b xs, x = .ref a ∧ y = .ref b ∧ SqT K H a xs ∧ SqT K H b [] ∧ Q (.bl xs.isEmpty) H
theorem op_eqTNil {X : Cx} (hu : X.A.units + 64 < cLine) : OpR X (compareOp .Eq) (rEqTNil X.K) := by
  intro pins s σ H x y v u Q I rx ry h
  obtain ⟨a, b, xs, rfl, rfl, ha, hb, q⟩ := h
  cases rx
  cases ry
  obtain ⟨its, rv, p, _⟩ := I.tuple ha
  obtain ⟨its2, rv2, p2, _⟩ := I.tuple hb
  cases rv2
  refine SeqAt.eq_tupleAt (e := fun _ => true) p p2 (by omega) (fun j h1 h2 => absurd h2 (Nat.not_lt_zero _)) ?_
  have hl := rv.length
  refine ⟨.bl _, H, I, ?_, q⟩
  show Value.bool _ = Value.bool _
  cases xs with
  | nil =>
    have : its = [] := List.eq_nil_of_length_eq_zero hl.symm
    subst this
    rfl
  | cons x xs =>
    cases its with
    | nil => simp at hl
    | cons i its => simp
end Cl

set_option maxHeartbeats 0
namespace Cl
open PySem PySem.Spec PyProof.Rows L2
/-! ### a lambda of one parameter, made within a def, handed to max as key -/
/-- the table at P: what it tells are the objects at cs -/
def TabAt (P : Addr) (cs : List Addr) : HO := .ext fun h => ∃ ps : Array Value, h.get? P = some { cls := .none, data := .fields ps } ∧ TriplesOk ps.toList ∧ ∀ (pos : Pos) (cv : Value), codeAmong pos ps.toList = some cv → ∃ c ∈ cs, cv = .ref c
/-- the lambda table at P stands: its codes bear the name q -/
def LT (H : Hp) (P : Addr) (q : Str) : Prop := ∃ cs : List Addr, H P = some (TabAt P cs) ∧ ∀ c ∈ cs, c ≠ P ∧ H c = some (LamX.CodeO c q)
theorem Same.lt {H H' : Hp} {P : Addr} {q : Str} (s : Same H H') (t : LT H P q) : LT H' P q := by
  obtain ⟨cs, h1, h2⟩ := t
  exact ⟨cs, s _ _ h1, fun c hc => ⟨(h2 c hc).1, s _ _ (h2 c hc).2⟩⟩
/-- all but the table at P stays -/
def SameX (P : Addr) (H H' : Hp) : Prop := ∀ b o, b ≠ P → H b = some o → Keep (H' b) o
theorem SameX.trans {P : Addr} {H H1 H2 : Hp} (a : SameX P H H1) (b : SameX P H1 H2) : SameX P H H2 := fun c o n h => by
  have k := a c o n h
  cases o with
  | tbl ps => exact fun t => let ⟨ps1, e1, t1⟩ := k t; b c (.tbl ps1) n e1 t1
  | _ => exact b c _ n k
theorem Same.x {P : Addr} {H H' : Hp} (a : Same H H') : SameX P H H' := fun b o _ e => a b o e
section
variable {X : Cx} {pins : List (Addr × Obj)} {σ : L2.St} {H : Hp} {s : Shared}
theorem inv_tabE {P c : Addr} {q : Str} {cs : List Addr} {ps more : Array Value} {h' : Heap} {t' : Nat} (I : Inv X pins σ H s) (hP : H P = some (TabAt P cs)) (k : ∀ b o, b ≠ P → s.heap.get? b = some o → h'.get? b = some o)
    (hm : h'.get? P = some { cls := .none, data := .fields (ps ++ more) }) (ht : TriplesOk (ps ++ more).toList) (ha : ∀ (pos : Pos) (cv : Value), codeAmong pos (ps ++ more).toList = some cv → ∃ c' ∈ c :: cs, cv = .ref c') (hc : s.heap.objs.size ≤ c) (ho : ∃ (oc : Obj) (vs : Array Value) (t : Tok), h'.get? c = some oc ∧ oc.data = .fields vs ∧ vs[1]? = some (.str q t)) :
    Inv X pins σ (upd (upd H P (TabAt P (c :: cs))) c (LamX.CodeO c q)) { s with heap := h', toks := t' } := by
  have nC : H c = none := I.hok.fresh hc
  have nPc : P ≠ c := ne_of_none hP nC
  have at_ : ∀ b, b ≠ P → b ≠ c → upd (upd H P (TabAt P (c :: cs))) c (LamX.CodeO c q) b = H b := fun b h1 h2 => by rw [upd_ne h2, upd_ne h1]
  have atP : upd (upd H P (TabAt P (c :: cs))) c (LamX.CodeO c q) P = some (TabAt P (c :: cs)) := by rw [upd_ne nPc, upd_same]
  have nP : ∀ b u, H b = some u → (∀ φ, u ≠ .ext φ) → b ≠ P := fun b u e q z => by
    rw [z, hP] at e
    exact q _ (Option.some.inj e).symm
  have nN : ∀ b, H b = none → b ≠ P := fun b e z => by
    rw [z, hP] at e
    cases e
  have lt' : ∀ b o, s.heap.get? b = some o → b ≠ c := fun b o e z => by
    rw [z] at e
    exact Nat.lt_irrefl _ (Nat.lt_of_lt_of_le (Heap.lt_size e) hc)
  have sm : ∀ b u, H b = some u → b ≠ c := fun b u e => ne_of_none e nC
  refine I.step (g' := s.gens) (d' := s.drawn) (ch := []) (fun b hb => absurd hb (by simp)) (fun b o _ _ _ e n => k b o (nN b n) e) (fun b o _ _ _ e n => ⟨o.slots, k b o (nN b n) e⟩)
    (fun b o _ e n => by rw [at_ b (nN b n) (lt' b o e)]; exact n) (fun b o _ e => ?_) (fun b xs e => by rw [at_ b (nP b _ e (fun q z => by cases z)) (sm b _ e)]; exact e) (fun b o u e => by rw [at_ b (nP b _ e (fun q z => by cases z)) (sm b _ e)]; exact e) (fun b qs e => ?_) (fun m hn => ?_) (fun b u e => ?_) I.bare
  · by_cases hb : b = P
    · rw [hb]
      exact ⟨_, hm⟩
    · exact ⟨o, k b o hb e⟩
  · rw [at_ b (nP b _ e (fun q z => by cases z)) (sm b _ e), e]
    exact ⟨#[], by simp⟩
  · obtain ⟨ob, es, ep, ho, r⟩ := hn
    exact ⟨ob, es, ep, k _ ob (nN _ I.free) ho, r⟩
  · by_cases hb : b = c
    · rw [hb, upd_same] at e
      cases e
      rw [hb]
      obtain ⟨oc, vs, t, e1, e2, e3⟩ := ho
      exact ⟨⟨oc, vs, t, e1, e2, e3⟩, ⟨oc, e1⟩, fun h1 h2 ⟨oc, vs, t, a, b, c⟩ st => ⟨oc, vs, t, st _ a, b, c⟩⟩
    · by_cases hb2 : b = P
      · rw [hb2, atP] at e
        cases e
        rw [hb2]
        exact ⟨⟨_, hm, ht, ha⟩, ⟨_, hm⟩, fun h1 h2 ⟨ps, a, b, c⟩ st => ⟨ps, st _ a, b, c⟩⟩
      · rw [at_ b hb2 hb] at e
        refine (I.hok b u e).stay (fun d v hd q => k d v ?_ q) (fun d q => by rw [at_ d (nP d _ q (fun q z => by cases z)) (sm d _ q)]; exact q) fun d xs q => by rw [at_ d (nP d _ q (fun q z => by cases z)) (sm d _ q)]; exact q
        rcases hd with z | z
        · rw [z]
          exact hb2
        · exact nP d _ z (fun q z => by cases z)
/-- the lambda's object -/
def LamO (X : Cx) (params : Arguments) (body : Expr) (scope : Scope) (c' f : Addr) : HO := .ext fun h => ∃ pm ctv : Value, h.get? f = some (PySem.W.kla_obj "<lambda>" (X.env.qual ++ "<lambda>") params body scope (cloFrom X.env.cells scope.names []) pm c' ctv)
theorem lam_make3 {c P : Addr} {params : Arguments} {body : Expr} {scope : Scope} {pos : Pos} {E : Value → Shared → Prop} {Q : Value → Shared → Prop} (I : Inv X pins σ H s) (TB : GxR.TabB X.base X.mg c P) (hcode : X.env.code = .ref c)
    (hT : LT H P (X.env.qual ++ "<lambda>")) (hdef : defaultsOf params X.env = ([], [])) (hfree : ∀ y ∈ scope.names, y.2 = .free → ∃ c, X.env.cells.lookup y.1 = some c)
    (h : ∀ (f c' : Addr) (H1 : Hp) (s' : Shared), Inv X pins σ H1 s' → SameX P H H1 → LT H1 P (X.env.qual ++ "<lambda>") →
      H1 f = some (LamO X params body scope c' f) → H1 c' = some (LamX.CodeO c' (X.env.qual ++ "<lambda>")) → Q (.ref f) s') :
    wpAny (model X.prog X.w) X.A (eval (.Lambda params body scope pos) X.env) Q E s := by
  obtain ⟨cs, hP, hcs⟩ := hT
  obtain ⟨⟨ps, hP', ht, ha⟩, _, _⟩ := I.hok P _ hP
  refine PySem.W.kla_eval hdef ?_
  have bP : s.heap.BuiltinsAt X.mg P := TB.bm.keeps I.bk
  have fin : ∀ (f c' : Addr) (pm ctv : Value) (H1 : Hp) (s' : Shared) (o : Obj) (tk : Nat), Inv X pins σ H1 { s' with toks := tk } → SameX P H H1 → LT H1 P (X.env.qual ++ "<lambda>") → H1 c' = some (LamX.CodeO c' (X.env.qual ++ "<lambda>")) → s'.heap.objs.size = f →
      o = PySem.W.kla_obj "<lambda>" (X.env.qual ++ "<lambda>") params body scope (cloFrom X.env.cells scope.names []) pm c' ctv → Q (.ref f) { s' with heap := s'.heap.push o, toks := tk } := by
    intro f c' pm ctv H1 s' o tk J sx lt hc hf ho
    have hg : (s'.heap.push o).get? f = some o := by rw [← hf, ho]; exact Heap.get?_push_size _ rfl
    have nf : H1 f = none := J.hok.fresh (by show s'.heap.objs.size ≤ f; rw [hf]; exact Nat.le_refl _)
    have J2 := J.laid (a := f) (o := LamO X params body scope c' f) (h' := s'.heap.push o) (t' := tk) (fun b u e => Heap.get?_push_of_some _ e) (by show s'.heap.objs.size ≤ f; rw [hf]; exact Nat.le_refl _)
      ⟨⟨pm, ctv, by rw [hg, ho]⟩, ⟨o, hg⟩, fun h1 h2 ⟨pm, ctv, a⟩ st => ⟨pm, ctv, st _ a⟩⟩
    have sn := same_new (o := LamO X params body scope c' f) nf
    exact h f c' _ _ J2 (sx.trans sn.x) (sn.lt lt) upd_same (sn _ _ hc)
  cases hc : codeAmong pos ps.toList with
  | none =>
    refine PySem.W.kla_makeFunction (mg := X.mg) (c := c) (P := P) (ps := ps) (closure_ok hfree) I.ok.glob (I.mod.glob.keeps I.bk) hcode (TB.code.keeps I.bk) hP' ht hc TB.gP bP fun c' ctv h' tk hx hge hlt hrec htb => ?_
    obtain ⟨c2, oc, vs, t, e2, hoc, hd, hv⟩ := hrec
    cases e2
    have nC : H c' = none := I.hok.fresh hge
    have eL : (ps ++ #[rawInt pos.line, rawInt pos.col, .ref c']).toList = ps.toList ++ [rawInt pos.line, rawInt pos.col, .ref c'] := by simp
    have I1 := inv_tabE (t' := tk) (ps := ps) (more := #[rawInt pos.line, rawInt pos.col, .ref c']) (c := c') (q := X.env.qual ++ "<lambda>") (h' := h') I hP
      (fun b o hb e => hx b o hb e) htb (by rw [eL]; exact PySem.TriplesOk_snoc _ _ _ _ ht) (fun p' cv hcv => by
        rw [eL] at hcv
        rcases LamX.among_app _ ht hcv with z | z
        · obtain ⟨c0, e1, e2⟩ := ha p' cv z
          exact ⟨c0, List.mem_cons_of_mem _ e1, e2⟩
        · exact ⟨c', List.mem_cons_self .., z⟩) hge ⟨oc, vs, t, hoc, hd, hv⟩
    refine fin h'.objs.size c' ((X.mg "__name__").getD .none) ctv _ { s with heap := h' } _ tk I1 (fun b o nb e => ?_) ⟨c' :: cs, ?_, fun c0 h0 => ?_⟩ upd_same rfl rfl
    · rw [upd_ne (ne_of_none e nC), upd_ne nb]
      exact .of e
    · rw [upd_ne (ne_of_none hP nC), upd_same]
    · rcases List.mem_cons.mp h0 with rfl | h0
      · exact ⟨(ne_of_none hP nC).symm, upd_same⟩
      · obtain ⟨n0, e⟩ := hcs c0 h0
        refine ⟨n0, ?_⟩
        rw [upd_ne (ne_of_none e nC), upd_ne n0]
        exact e
  | some cv =>
    obtain ⟨c', hm, e⟩ := ha pos cv hc
    subst e
    refine PySem.W.kla_makeFunctionHit (mg := X.mg) (c := c) (P := P) (ps := ps) (closure_ok hfree) I.ok.glob (I.mod.glob.keeps I.bk) hcode (TB.code.keeps I.bk) hP' ht hc bP fun ctv h' tk hx hsz => ?_
    have I1 : Inv X pins σ H { s with heap := h', toks := tk } := I.kept hx
    exact fin h'.objs.size c' ((X.mg "__name__").getD .none) ctv H { s with heap := h' } _ tk I1 (fun b o _ e => .of e) ⟨cs, hP, hcs⟩ (hcs c' hm).2 rfl rfl
end
end Cl

set_option maxHeartbeats 0
namespace Cl
open PySem PySem.Spec PyProof.Rows L2
/-- a lambda's scope: its one parameter a, captured names, globals -/
structure LamK (sc scope : Scope) (a : Str) : Prop where
  kind : scope.kind = .function
  co : scope.isCoroutine = false
  gen : scope.isGenerator = false
  nocell : ∀ y ∈ scope.names, y.2 ≠ .cell
  own : ∀ y ∈ scope.names, y.2 = .local → y.1 = a
  par : scope.names.lookup a = some .local
  free : ∀ y ∈ scope.names, y.2 = .free → sc.names.lookup y.1 = some .cell ∨ sc.names.lookup y.1 = some .free
def lamKB (sc scope : Scope) (a : Str) : Bool :=
  decide (scope.kind = .function) && (!scope.isCoroutine && (!scope.isGenerator && (decide (scope.names.lookup a = some .local) && scope.names.all fun y => !decide (y.2 = .cell) && ((!decide (y.2 = .local) || decide (y.1 = a)) && (!decide (y.2 = .free) || (decide (sc.names.lookup y.1 = some .cell) || decide (sc.names.lookup y.1 = some .free)))))))
theorem lamK_by {sc scope : Scope} {a : Str} (h : lamKB sc scope a = true) : LamK sc scope a := by
  unfold lamKB at h
  simp only [Bool.and_eq_true, Bool.or_eq_true, Bool.not_eq_true', decide_eq_true_eq, decide_eq_false_iff_not, List.all_eq_true] at h
  obtain ⟨h1, h2, h3, h4, h5⟩ := h
  refine ⟨h1, h2, h3, fun y hy => (h5 y hy).1, fun y hy e => ?_, h4, fun y hy e => ?_⟩
  · rcases (h5 y hy).2.1 with z | z
    · exact absurd e z
    · exact z
  · rcases (h5 y hy).2.2 with z | z
    · exact absurd e z
    · exact z
theorem LamK.has {X : Cx} {scope : Scope} {a : Str} (L : LamK X.env.scope scope a) (ok : X.Ok) : ∀ y ∈ scope.names, y.2 = .free → ∃ c, X.env.cells.lookup y.1 = some c := fun y hy e => by
  rcases L.free y hy e with k | k
  · exact ok.has _ (.inl k)
  · exact ok.has _ (.inr k)
/-- the context of the lambda's body -/
def lamCx1 (X : Cx) (a : Str) (A : Around) (outer : List Env) (s : Shared) (H : Hp) (scope : Scope) (f c' : Addr) : Cx where
  prog := X.prog
  w := X.w
  K := X.K
  mg := X.mg
  base := X.base
  A := A.deeper (LamX.lamEnv X scope s.heap.objs.size f c')
  N := a :: X.N
  s_0 := s
  H_0 := H
  env := LamX.lamEnv X scope s.heap.objs.size f c'
  outer := outer
  stack := LamX.lamEnv X scope s.heap.objs.size f c' :: outer
  ex := []
  fn := fun _ => false
  calm := true
  pn := []
  xe := fun _ _ => False
section
variable {X : Cx} {pins : List (Addr × Obj)} {σ : L2.St} {H : Hp} {s : Shared}
theorem lam_start1 {A : Around} {outer : List Env} {scope : Scope} {a : Str} {v : V} {u : Value} {f c' : Addr} {h₁ : Heap} {tk : Nat} (I : Inv X pins σ H s) (L : LamK X.env.scope scope a) (e0 : Env0 X.prog X.w X.K X.mg X.base A outer s H) (hd : A.handled = none) (ha : a ∉ X.N) (r : RelV v u)
    (hns : h₁.Ns s.heap.objs.size fun y => ([(a, u)] : List (Str × Value)).reverse.lookup y) (kp : ∀ b o, s.heap.get? b = some o → h₁.get? b = some o) :
    Inv (lamCx1 X a A outer s H scope f c') [] (some v :: σ) H { s with heap := h₁, toks := tk } := by
  have hfree := L.has I.ok
  have cm : ∀ {y c}, (cloFrom X.env.cells scope.names []).lookup y = some c → X.env.cells.lookup y = some c := fun {y c} e => by
    rcases cloFrom_mem (PySem.mem_of_lookup e) with hm | ⟨h1, h2⟩
    · cases hm
    · obtain ⟨c1, hc⟩ := hfree _ h1 rfl
      have hc : X.env.cells.lookup y = some c1 := hc
      have e2 : c = c1 := by
        rw [h2, hc] <;> rfl
      rw [e2]
      exact hc
  have look : ∀ {y}, scope.names.lookup y = some .free → ∃ c, (cloFrom X.env.cells scope.names []).lookup y = some c := fun {y} hl => by
    have hy : (y, NameKind.free) ∈ scope.names := PySem.mem_of_lookup hl
    exact mem_lookup (cloFrom_has (cells := X.env.cells) (acc := []) hy)
  have cellK : ∀ {c : Addr} {v : Option Value}, H c = none → s.heap.IsCell c v → h₁.IsCell c v := fun {c v} n ⟨o, ho, hd⟩ => ⟨_, kp _ _ ho, hd⟩
  have noA : ∀ b : Addr, b ∉ (lamCx1 X a A outer s H scope f c').ex := fun b z => absurd (show b ∈ ([] : List Addr) from z) (by simp)
  refine ⟨⟨e0.mod, L.kind, rfl, rfl, Nat.le_refl _, fun y z c e1 e2 => I.ok.inj y z c (cm e1) (cm e2), fun y hy => ?_, fun y c z _ => ?_, fun _ => hd, Around.frames_deeper e0.frames, .inr ⟨rfl, rfl⟩, fun b z => absurd z (noA b), e0.bs, e0.bsz, fun b _ _ => noA b,
      fun b z => absurd z (noA b), e0.funs, e0.frf⟩,
    rfl, e0.bare, Un.kept kp, ⟨_, hns, fun i y v' e1 e2 e3 => ?_⟩, fun y c e => ?_, e0.hok.fresh (Nat.le_refl _), fun y c e => ?_, fun q hq => absurd (show q ∈ ([] : List (Addr × Obj)) ++ [] from hq) (by simp), e0.hok.kept kp, ?_⟩
  · have hy : scope.names.lookup y = some .cell ∨ scope.names.lookup y = some .free := hy
    rcases hy with hy | hy
    · exact absurd rfl (L.nocell _ (PySem.mem_of_lookup hy))
    · exact look hy
  · have z : false = true := z
    cases z
  · have e3 : Vis scope y := e3
    cases i with
    | zero =>
      have e1 : some a = some y := e1
      have e2 : some (some v) = some (some v') := e2
      cases e1
      cases e2
      refine ⟨u, r, .inl ⟨L.par, ?_⟩⟩
      show List.lookup a [(a, u)] = some u
      simp
    | succ i =>
      have e1 : X.N[i]? = some y := e1
      have e2 : σ[i]? = some (some v') := e2
      rcases e3 with k | k | k
      · exact absurd (by rw [← L.own _ (PySem.mem_of_lookup k) rfl]; exact List.mem_of_getElem? e1) ha
      · exact absurd rfl (L.nocell _ (PySem.mem_of_lookup k))
      · obtain ⟨m, hn, hl⟩ := I.loc
        have hvis : Vis X.env.scope y := (L.free _ (PySem.mem_of_lookup k) rfl).elim (fun k => .inr (.inl k)) (fun k => .inr (.inr k))
        obtain ⟨w', r, q⟩ := hl i y v' e1 e2 hvis
        obtain ⟨c2, h2⟩ := look k
        refine ⟨w', r, .inr ⟨.inr k, c2, h2, ?_⟩⟩
        have c1 := cm h2
        rcases q with ⟨k', _⟩ | ⟨_, c3, e', z⟩
        · have k' : X.env.scope.names.lookup y = some .local := k'
          rcases L.free _ (PySem.mem_of_lookup k) rfl with k2 | k2 <;> rw [show X.env.scope.names.lookup y = _ from k2] at k' <;> cases k'
        · rw [c1] at e'
          cases e'
          exact cellK (I.freeC y _ c1) z
  · obtain ⟨w', z⟩ := I.cell y c (cm e)
    exact ⟨w', cellK (I.freeC y c (cm e)) z⟩
  · exact I.freeC y c (cm e)
  · show (some v :: σ).length = (a :: X.N).length
    rw [List.length_cons, List.length_cons, I.len]
/-- the lambda called within a built-in -/
theorem call_key {k : Nat} {params : Arguments} {body : Expr} {scope : Scope} {a : Str} {f c' : Addr} {v : V} {u : Value} {t : TE} {Q : VK} (I : Inv X pins σ H s) (L : LamK X.env.scope scope a) (ha : a ∉ X.N) (hf : H f = some (LamO X params body scope c' f)) (hc : H c' = some (LamX.CodeO c' (X.env.qual ++ "<lambda>")))
    (hbind : ∀ (q : Str) (cl : List (Str × Addr)) (pm cv ctv u : Value), bindArgs (PySem.W.kla_fn "<lambda>" q params body scope cl pm cv ctv) ⟨[u], []⟩ = pure [(a, u)])
    (hr : RG (k + 2) X.A) (hbody : ∀ (A : Around) (outer : List Env) (s : Shared) (H : Hp), RG k (A.deeper (LamX.lamEnv X scope s.heap.objs.size f c')) → PE (lamCx1 X a A outer s H scope f c') body t)
    (r : RelV v u) (ht : t (some v :: σ) H Q) :
    wpAny (model X.prog X.w) X.A.in1 (call (.ref f) [u]) (EP X pins σ Q) (fun _ _ => False) s := by
  obtain ⟨⟨pm, ctv, of1⟩, _, _⟩ := I.hok f _ hf
  obtain ⟨⟨oc, vs, tt, hoc, hdc, hvc⟩, _, _⟩ := I.hok c' _ hc
  have hr1 : RG (k + 1) X.A.in1 := ⟨hr.room.in1, hr.gd⟩
  have e0 : Env0 X.prog X.w X.K X.mg X.base X.A.in1 X.stack s H := ⟨I.ok.frames, I.ok.mod, I.bs, Nat.le_trans I.ok.bsz I.sz, I.stack, I.stkFree, I.hok, I.bare⟩
  have rc : codeAny (model X.prog X.w) X.A.in1 (.call (.ref f) ⟨[u], []⟩) (CR CX0 X.stack X.prog X.w H s Q E0) s := by
    refine PySem.W.kla_callFunE hr1.room.depth of1 rfl L.co L.gen rfl ⟨c', oc, vs, tt, rfl, hoc, hdc, hvc⟩ ?_
    rw [hbind]
    refine wpAny_pure (wpAny_newFunctionEnv (fun y hy => L.nocell y hy) (fun y hy => by rw [List.mem_singleton.mp hy]; exact L.par) (fun h₁ hns hsb => ⟨I.nolimit.fresh _ hsb, ?_⟩) L.kind)
    show codeAny _ _ (.expr body (LamX.lamEnv X scope s.heap.objs.size f c')) _ _
    have kp : ∀ b o, s.heap.get? b = some o → h₁.get? b = some o := fun b o e => hsb.extBut b o (Nat.ne_of_lt (Heap.lt_size e)) (Heap.get?_push_of_some _ e)
    have J := lam_start1 (f := f) (c' := c') (tk := s.toks + 1) I L e0 hr1.room.hd ha r hns kp
    have hr2 : RG k (X.A.in1.deeper (LamX.lamEnv X scope s.heap.objs.size f c')) := ⟨hr1.room.deeper _, hr1.gd⟩
    refine PySem.W.kla_codeExpr (wpAny_mono ((hbody X.A.in1 X.stack s H hr2).run [] _ _ H Q J ht) (fun v s' hq => ?_) fun e s' hq => (show False from hq).elim)
    obtain ⟨w', H', J', rv, q⟩ := hq
    exact ⟨w', H', J'.os, J'.bare, J'.base, J'.hok, rv, q⟩
  refine wpAny_call (codeAny_mono rc fun r s' hq => ?_)
  cases r with
  | error e => exact hq.elim
  | ok fl =>
    cases fl with
    | ret u => exact I.after hq
    | next => exact False.elim hq
    | brk => exact False.elim hq
    | cont => exact False.elim hq
end
end Cl

set_option maxHeartbeats 0
namespace Cl
open PySem PySem.Spec PyProof.Rows L2
section
variable {X : Cx} {pins : List (Addr × Obj)} {σ : L2.St} {H0 H : Hp} {s : Shared}
theorem Same.tupS {H H' : Hp} {t : Addr} {vs : List V} (s : Same H H') (h : SqT X.K H t vs) : SqT X.K H' t vs := seT s h
theorem max_loopI {t f S It : Addr} {vs : List V} {R : Result → Shared → Prop} (kf : Nat → Int) (hh : X.A.handled = none) (hS : SqT X.K H0 t vs) (hSI : S ≠ It) (htI : t ≠ It)
    (fS : ∀ H', H' S = none → FpOk X pins H' S) (fI : ∀ H', H' It = none → FpOk X pins H' It)
    (turn : ∀ (i : Nat) (x : V) (u : Value) (pins' : List (Addr × Obj)) (H : Hp) (s : Shared), vs[i]? = some x → RelV x u → Inv X pins' σ H s → Same H0 H →
      wpAny (model X.prog X.w) X.A.in1 (call (.ref f) [u]) (EP X pins' σ (fun y H' => y = .int (kf i) ∧ Same H0 H')) (fun _ _ => False) s)
    (hR : ∀ (i : Nat) (x : V) (u : Value) (H : Hp) (s : Shared), vs[i]? = some x → RelV x u → (∀ j, j < vs.length → kf i ≥ kf j ∧ (j < i → kf i > kf j)) → Inv X pins σ H s → Same H0 H → R (.ok (.ret u)) s) :
    ∀ (r j i : Nat) (H : Hp) (s : Shared) (xb : V) (ub : Value) (tb : Tok) (c : Nat), vs.length - (j + 1) = r → j + 1 ≤ vs.length → Inv X pins σ H s → Same H0 H → H S = none → H It = none →
      s.heap.get? S = some (seqObj "list" #[ub, .int (kf i) tb] c) → s.heap.IsTupleIter It t (j + 1) → vs[i]? = some xb → RelV xb ub → i ≤ j → (∀ j', j' ≤ j → kf i ≥ kf j' ∧ (j' < i → kf i > kf j')) →
      codeAny (model X.prog X.w) X.A (.builtin "max.loop" ⟨[.ref It, .ref f, .ref S], []⟩) R s := by
  have hname : (toString "max" ++ toString ".loop" : String) = "max.loop" := by decide
  intro r
  induction r with
  | zero =>
    intro j i H s xb ub tb c hr hj I sm nS nI gS hit hxb hub hij hbest
    have hin : j + 1 = vs.length := by omega
    obtain ⟨its, rv, tup, hz⟩ := I.tuple (seT sm hS)
    have W := Walks.tuple (prog := X.prog) (w := X.w) (A := X.A.in1) hh It t htI its.toArray
    have hsz : its.toArray.size = vs.length := by rw [List.size_toArray]; exact rv.length.symm
    refine codeAny_builtin PySem.F.entry_max_loop ?_
    rw [Around.under_plainId PySem.F.plain_max_loop _]
    show wpAny _ X.A.in1 (seqItems? (.ref S) >>= _) _ _ _
    refine wpAny_bind (wpAny_seqItems gS rfl ?_)
    show wpAny _ X.A.in1 (tryCatch (pyNext (.ref It)) _ >>= _) _ _ _
    refine wpAny_bind (wpAny_tryCatch (W.done _ _ _ ⟨by rw [hsz, ← hin]; exact hit, tup⟩ fun h' tk' hk' => ?_))
    obtain ⟨_, i1, i2, i3, i4, i5⟩ := fI H nI
    obtain ⟨_, s1, s2, s3, s4, s5⟩ := fS H nS
    have I1 := I.turned (h' := h') (t' := tk') (it := It) (fun b o hb e => hk' b o (by simpa using hb) e) nI i1 i3 i4 i5
    have gS' := hk' S _ (by simpa using hSI) gS
    show wpAny _ X.A.in1 (updateSeq S (fun _ => #[]) >>= _) _ _ _
    refine wpAny_bind ?_
    refine wpAny_updateSeq gS' rfl (wpAny_bind (wpAny_letGo (wpAny_pure ?_)))
    have I2 := I1.turned (h' := h'.update S (Obj.mapSeq fun _ => (#[] : Array Value))) (t' := tk') (it := S) (fun b o hb e => (Heap.get?_update_ne _ _ _ _ hb).trans e) nS s1 s3 s4 s5
    exact hR i xb ub H _ hxb hub (fun j' hj' => hbest j' (by omega)) I2 sm
  | succ r ih =>
    intro j i H s xb ub tb c hr hj I sm nS nI gS hit hxb hub hij hbest
    have hlt : j + 1 < vs.length := by omega
    obtain ⟨its, rv, tup, hz⟩ := I.tuple (seT sm hS)
    have W := Walks.tuple (prog := X.prog) (w := X.w) (A := X.A.in1) hh It t htI its.toArray
    have hsz : its.toArray.size = vs.length := by rw [List.size_toArray]; exact rv.length.symm
    refine codeAny_builtin PySem.F.entry_max_loop ?_
    rw [Around.under_plainId PySem.F.plain_max_loop _]
    show wpAny _ X.A.in1 (seqItems? (.ref S) >>= _) _ _ _
    refine wpAny_bind (wpAny_seqItems gS rfl ?_)
    show wpAny _ X.A.in1 (tryCatch (pyNext (.ref It)) _ >>= _) _ _ _
    refine wpAny_bind (wpAny_tryCatch (W.item (j + 1) _ _ _ (by rw [hsz]; exact hlt) ⟨hit, tup⟩ fun v h' tk' hP hst' hk' => ?_))
    have hv : its[j + 1]? = some v := by simpa using hP
    obtain ⟨x, hx⟩ : ∃ x, vs[j + 1]? = some x := ⟨_, List.getElem?_eq_getElem hlt⟩
    obtain ⟨v', ev, rel⟩ := rv.get hx
    obtain rfl : v' = v := Option.some.inj (ev.symm.trans hv)
    obtain ⟨_, i1, i2, i3, i4, i5⟩ := fI H nI
    obtain ⟨_, s1, s2, s3, s4, s5⟩ := fS H nS
    have I1 := I.turned (h' := h') (t' := tk') (it := It) (fun b o hb e => hk' b o (by simpa using hb) e) nI i1 i3 i4 i5
    have gS' := hk' S _ (by simpa using hSI) gS
    obtain ⟨oI', hoI', hoc, hod⟩ := id hst'.1
    have J : Inv X (pins ++ [(S, seqObj "list" #[ub, .int (kf i) tb] c), (It, oI')]) σ H { s with heap := h', toks := tk' } := I1.pins_of fun p hp => by
      rcases List.mem_append.mp hp with hp | hp
      · exact I1.pin p (List.mem_append_right _ hp)
      · rcases List.mem_cons.mp hp with rfl | hp
        · exact ⟨gS', nS, s1, s2, fun v z => nomatch z⟩
        · rw [List.mem_singleton.mp hp]
          exact ⟨hoI', nI, i1, i2, fun v z => by rw [show (It, oI').2.data = oI'.data from rfl, hod] at z; cases z⟩
    show wpAny _ X.A.in1 (tryCatch (holding [v'] (call (.ref f) [v'])) _ >>= _) _ _ _
    refine wpAny_bind (wpAny_tryCatch (wpAny_holding (wpAny_mono (turn (j + 1) x v' _ H _ hx rel J sm) (fun y s2 he => ?_) fun _ _ hF => hF.elim)))
    obtain ⟨yv, H2, J2, ry, rfl, sm2⟩ := he
    obtain ⟨t2, rfl⟩ := ry
    have pS := J2.pin (S, seqObj "list" #[ub, .int (kf i) tb] c) (List.mem_append_right _ (List.mem_append_right _ (.head _)))
    have pI := J2.pin (It, oI') (List.mem_append_right _ (List.mem_append_right _ (.tail _ (.head _))))
    have J3 : Inv X pins σ H2 s2 := J2.pins_of fun p hp => J2.pin p (List.mem_append_right _ (List.mem_append_left _ hp))
    have hit2 : s2.heap.IsTupleIter It t (j + 1 + 1) := ⟨oI', pI.1, hoc, hod⟩
    show wpAny _ X.A.in1 (tryCatch (holding [v', .int (kf (j + 1)) t2] (richCompare .Gt (.int (kf (j + 1)) t2) (.int (kf i) tb) >>= _)) _ >>= _) _ _ _
    refine wpAny_bind (wpAny_tryCatch (wpAny_holding (wpAny_bind (CmpOf.ints_gt (prog := X.prog) (w := X.w) (A := X.A.in1) (P := fun i v => ∃ t, v = .int (kf i) t) kf (fun i v h => h) (j + 1) i _ _ _ _ _ ⟨t2, rfl⟩ ⟨tb, rfl⟩ ?_))))
    refine wpAny_bind (wpAny_holding (wpAny_truthy_bool ?_))
    refine wpAny_bind (wpAny_letGo (wpAny_pure ?_))
    by_cases hb' : kf (j + 1) > kf i
    · obtain ⟨c2, hc2⟩ : ∃ c2, (s2.heap.update S (Obj.mapSeq fun _ => #[v', .int (kf (j + 1)) t2])).get? S = some (seqObj "list" #[v', .int (kf (j + 1)) t2] c2) := ⟨_, get?_update_seq pS.1 fun _ => #[v', .int (kf (j + 1)) t2]⟩
      simp only [hb', decide_true, if_true]
      refine wpAny_bind ?_
      refine wpAny_updateSeq pS.1 rfl (wpAny_bind (wpAny_letGo ?_))
      rw [hname]
      have I4 := J3.turned (h' := s2.heap.update S (Obj.mapSeq fun _ => #[v', .int (kf (j + 1)) t2])) (t' := s2.toks) (it := S) (fun b o hb e => (Heap.get?_update_ne _ _ _ _ hb).trans e) pS.2.1 s1 s3 s4 s5
      refine wpAny_pure ⟨plainId_quiet PySem.F.plain_max_loop _, ih (j + 1) (j + 1) H2 _ x v' t2 c2 (by omega) hlt I4 sm2 pS.2.1 pI.2.1 hc2 ⟨oI', (Heap.get?_update_ne _ _ _ _ hSI.symm).trans pI.1, hoc, hod⟩ hx rel (Nat.le_refl _) fun j' hj' => ?_⟩
      by_cases e : j' = j + 1
      · subst e
        exact ⟨by omega, fun _ => by omega⟩
      · have hb1 := hbest j' (by omega)
        have hb2 := hb1.1
        exact ⟨by omega, fun _ => by omega⟩
    · simp only [hb', decide_false, Bool.false_eq_true, if_false]
      refine wpAny_bind (wpAny_letGo ?_)
      rw [hname]
      refine wpAny_pure ⟨plainId_quiet PySem.F.plain_max_loop _, ih (j + 1) i H2 _ xb ub tb c (by omega) hlt J3 sm2 pS.2.1 pI.2.1 pS.1 hit2 hxb hub (by omega) fun j' hj' => ?_⟩
      by_cases e : j' = j + 1
      · subst e
        exact ⟨by omega, fun _ => by omega⟩
      · exact hbest j' (by omega)
/-- max(t, key=f), t a tuple -/
theorem max_keyI {t f : Addr} {vs : List V} {Q : Value → Shared → Prop} {E : Value → Shared → Prop} (kf : Nat → Int) (hh : X.A.handled = none) (I : Inv X pins σ H s) (hS : SqT X.K H t vs) (hne : 0 < vs.length)
    (turn : ∀ (i : Nat) (x : V) (u : Value) (pins' : List (Addr × Obj)) (H1 : Hp) (s : Shared), vs[i]? = some x → RelV x u → Inv X pins' σ H1 s → Same H H1 →
      wpAny (model X.prog X.w) X.A.in1 (call (.ref f) [u]) (EP X pins' σ (fun y H' => y = .int (kf i) ∧ Same H H')) (fun _ _ => False) s)
    (hQ : ∀ (i : Nat) (x : V) (u : Value) (H1 : Hp) (s : Shared), vs[i]? = some x → RelV x u → (∀ j, j < vs.length → kf i ≥ kf j ∧ (j < i → kf i > kf j)) → Inv X pins σ H1 s → Same H H1 → Q u s) :
    wpAny (model X.prog X.w) X.A (call (.builtin "max") [.ref t] [(Str.ofString "key", .ref f)]) Q E s := by
  have hname : (toString "max" ++ toString ".loop" : String) = "max.loop" := by decide
  obtain ⟨its, rv, tup, hz⟩ := I.tuple hS
  have htt : t < s.heap.objs.size := by obtain ⟨o, e, _⟩ := id tup; exact Heap.lt_size e
  refine kmk_tree PySem.F.kind_max PySem.F.plain_max PySem.F.entry_max (kmk_max_key _ _) ?_
  show wpAny _ X.A.in1 (Builtin.Builtins.bindParams "max" ["key", "default"] 0 ⟨[], [(Str.ofString "key", .ref f)]⟩ >>= _) _ _ s
  refine wpAny_bind (wpAny_of_eq (show Builtin.Builtins.bindParams "max" ["key", "default"] 0 ⟨[], [(Str.ofString "key", .ref f)]⟩ = pure [some (.ref f), none] from rfl) ?_)
  refine wpAny_bind (wpAny_pure ?_)
  refine wpAny_bind (wpAny_pyIter_tuple tup ?_)
  refine wpAny_bind (wpAny_newList ?_ (Nat.zero_le _))
  rw [hname]
  have hS1 : (s.heap.push { cls := .type "tuple_iterator", data := .fields #[.ref t, .int 0 0] }).objs.size = s.heap.objs.size + 1 := size_push' ..
  have htI : t ≠ s.heap.objs.size := Nat.ne_of_lt htt
  have hSI : (s.heap.push { cls := .type "tuple_iterator", data := .fields #[.ref t, .int 0 0] }).objs.size ≠ s.heap.objs.size := by rw [hS1]; exact Nat.ne_of_gt (Nat.lt_succ_self _)
  refine wpAny_pure ⟨plainId_quiet PySem.F.plain_max_loop _, ?_⟩
  have gI : ((s.heap.push { cls := .type "tuple_iterator", data := .fields #[.ref t, .int 0 0] }).push (seqObj "list" #[] 0)).get? s.heap.objs.size = some { cls := .type "tuple_iterator", data := .fields #[.ref t, .int 0 0] } :=
    Heap.get?_push_of_some _ (Heap.get?_push_size _ rfl)
  have gS : ((s.heap.push { cls := .type "tuple_iterator", data := .fields #[.ref t, .int 0 0] }).push (seqObj "list" #[] 0)).get? (s.heap.push { cls := .type "tuple_iterator", data := .fields #[.ref t, .int 0 0] }).objs.size = some (seqObj "list" #[] 0) := Heap.get?_push_size _ rfl
  have fI : ∀ H', H' s.heap.objs.size = none → FpOk X pins H' s.heap.objs.size := fun H' n => I.fpOk (Nat.le_refl _) n
  have fS : ∀ H', H' (s.heap.push { cls := .type "tuple_iterator", data := .fields #[.ref t, .int 0 0] }).objs.size = none → FpOk X pins H' (s.heap.push { cls := .type "tuple_iterator", data := .fields #[.ref t, .int 0 0] }).objs.size := fun H' n => I.fpOk (by rw [hS1]; exact Nat.le_succ _) n
  have nI : H s.heap.objs.size = none := I.hok.fresh (Nat.le_refl _)
  have nS : H (s.heap.push { cls := .type "tuple_iterator", data := .fields #[.ref t, .int 0 0] }).objs.size = none := I.hok.fresh (by rw [hS1]; exact Nat.le_succ _)
  have I0 : Inv X pins σ H { s with heap := (s.heap.push { cls := .type "tuple_iterator", data := .fields #[.ref t, .int 0 0] }).push (seqObj "list" #[] 0) } := I.kept (t' := s.toks) fun b o e => Heap.get?_push_of_some _ (Heap.get?_push_of_some _ e)
  have tup0 : ((s.heap.push { cls := .type "tuple_iterator", data := .fields #[.ref t, .int 0 0] }).push (seqObj "list" #[] 0)).IsTuple t its.toArray := by
    obtain ⟨o, e, r⟩ := id tup
    exact ⟨o, Heap.get?_push_of_some _ (Heap.get?_push_of_some _ e), r⟩
  generalize (s.heap.push { cls := .type "tuple_iterator", data := .fields #[.ref t, .int 0 0] }).objs.size = S at *
  generalize (s.heap.push { cls := .type "tuple_iterator", data := .fields #[.ref t, .int 0 0] }).push (seqObj "list" #[] 0) = h0 at *
  generalize s.heap.objs.size = It at *
  have W := Walks.tuple (prog := X.prog) (w := X.w) (A := X.A.in1) hh It t htI its.toArray
  have hsz : its.toArray.size = vs.length := by rw [List.size_toArray]; exact rv.length.symm
  refine codeAny_builtin PySem.F.entry_max_loop ?_
  rw [Around.under_plainId PySem.F.plain_max_loop _]
  show wpAny _ X.A.in1 (seqItems? (.ref _) >>= _) _ _ _
  refine wpAny_bind (wpAny_seqItems gS rfl ?_)
  show wpAny _ X.A.in1 (tryCatch (pyNext (.ref It)) _ >>= _) _ _ _
  refine wpAny_bind (wpAny_tryCatch (W.item 0 _ _ _ (by rw [hsz]; exact hne) ⟨⟨_, gI, rfl, rfl⟩, tup0⟩ fun v h' tk' hP hst' hk' => ?_))
  have hv : its[0]? = some v := by simpa using hP
  obtain ⟨x, hx⟩ : ∃ x, vs[0]? = some x := ⟨_, List.getElem?_eq_getElem hne⟩
  obtain ⟨v', ev, rel⟩ := rv.get hx
  obtain rfl : v' = v := Option.some.inj (ev.symm.trans hv)
  obtain ⟨_, i1, i2, i3, i4, i5⟩ := fI H nI
  obtain ⟨_, s1, s2, s3, s4, s5⟩ := fS H nS
  have I1 := I0.turned (h' := h') (t' := tk') (it := It) (fun b o hb e => hk' b o (by simpa using hb) e) nI i1 i3 i4 i5
  have gS' := hk' S _ (by simpa using hSI) gS
  obtain ⟨oI', hoI', hoc, hod⟩ := id hst'.1
  have J : Inv X (pins ++ [(S, seqObj "list" #[] 0), (It, oI')]) σ H { s with heap := h', toks := tk' } := I1.pins_of fun p hp => by
    rcases List.mem_append.mp hp with hp | hp
    · exact I1.pin p (List.mem_append_right _ hp)
    · rcases List.mem_cons.mp hp with rfl | hp
      · exact ⟨gS', nS, s1, s2, fun v z => nomatch z⟩
      · rw [List.mem_singleton.mp hp]
        exact ⟨hoI', nI, i1, i2, fun v z => by rw [show (It, oI').2.data = oI'.data from rfl, hod] at z; cases z⟩
  show wpAny _ X.A.in1 (tryCatch (holding [v'] (call (.ref f) [v'])) _ >>= _) _ _ _
  refine wpAny_bind (wpAny_tryCatch (wpAny_holding (wpAny_mono (turn 0 x v' _ H _ hx rel J (.refl H)) (fun y s2 he => ?_) fun _ _ hF => hF.elim)))
  obtain ⟨yv, H2, J2, ry, rfl, sm2⟩ := he
  obtain ⟨t2, rfl⟩ := ry
  have pS := J2.pin (S, seqObj "list" #[] 0) (List.mem_append_right _ (List.mem_append_right _ (.head _)))
  have pI := J2.pin (It, oI') (List.mem_append_right _ (List.mem_append_right _ (.tail _ (.head _))))
  have J3 : Inv X pins σ H2 s2 := J2.pins_of fun p hp => J2.pin p (List.mem_append_right _ (List.mem_append_left _ hp))
  obtain ⟨c2, hc2⟩ : ∃ c2, (s2.heap.update S (Obj.mapSeq fun _ => #[v', .int (kf 0) t2])).get? S = some (seqObj "list" #[v', .int (kf 0) t2] c2) := ⟨_, get?_update_seq pS.1 fun _ => #[v', .int (kf 0) t2]⟩
  show wpAny _ X.A.in1 (updateSeq S (fun _ => #[v', .int (kf 0) t2]) >>= _) _ _ _
  refine wpAny_bind ?_
  refine wpAny_updateSeq pS.1 rfl ?_
  rw [hname]
  have I4 := J3.turned (h' := s2.heap.update S (Obj.mapSeq fun _ => #[v', .int (kf 0) t2])) (t' := s2.toks) (it := S) (fun b o hb e => (Heap.get?_update_ne _ _ _ _ hb).trans e) pS.2.1 s1 s3 s4 s5
  refine wpAny_pure ⟨plainId_quiet PySem.F.plain_max_loop _, max_loopI kf hh hS hSI htI fS fI turn (fun i x u H1 s' h1 h2 h3 h4 h5 => hQ i x u H1 s' h1 h2 h3 h4 h5) _ 0 0 H2 _ x v' t2 c2 rfl hne I4 sm2 pS.2.1 pI.2.1 hc2 ⟨oI', (Heap.get?_update_ne _ _ _ _ hSI.symm).trans pI.1, hoc, hod⟩ hx rel (Nat.le_refl _) fun j' hj' => ?_⟩
  have e : j' = 0 := by omega
  subst e
  exact ⟨by omega, fun h => absurd h (Nat.lt_irrefl _)⟩
end
end Cl

set_option maxHeartbeats 0
namespace Cl
open PySem PySem.Spec PyProof.Rows L2
/-- what stands but for the table at P -/
def hp (P : Addr) (H : Hp) : Hp := fun b => if b = P then none else H b
theorem hp_at {P b : Addr} {H : Hp} {o : HO} (h : hp P H b = some o) : b ≠ P ∧ H b = some o := by
  unfold hp at h
  split at h
  · cases h
  · exact ⟨by assumption, h⟩
theorem hp_of {P b : Addr} {H : Hp} {o : HO} (n : b ≠ P) (h : H b = some o) : hp P H b = some o := by
  unfold hp
  rw [if_neg n]
  exact h
theorem SameX.to {P : Addr} {H H' : Hp} (s : SameX P H H') : Same (hp P H) H' := fun b o e => s b o (hp_at e).1 (hp_at e).2
theorem SameX.refl {P : Addr} (H : Hp) : SameX P H H := fun _ _ _ e => .of e
section
variable {K : PySem.W.Frag} {H H' : Hp} {P : Addr} {q : Str}
theorem dnT {a : Addr} {xs : List V} (t : LT H P q) (h : SqT K H a xs) : SqT K (hp P H) a xs := by
  obtain ⟨cs, e, _⟩ := t
  have ne : ∀ u, H a = some u → (∀ φ, u ≠ .ext φ) → a ≠ P := fun u z n y => by
    rw [y, e] at z
    exact n _ (Option.some.inj z).symm
  rcases h with (h | ⟨o, h⟩) | h
  · exact .inl (.inl (hp_of (ne _ h fun φ z => nomatch z) h))
  · exact .inl (.inr ⟨o, hp_of (ne _ h fun φ z => nomatch z) h⟩)
  · exact .inr h
theorem dn2 {v : V} {p : Int × Int} (t : LT H P q) (h : At2 K H v p) : At2 K (hp P H) v p := by
  obtain ⟨a, rfl, h⟩ := h
  exact ⟨a, rfl, dnT t h⟩
theorem dnL {v : V} {l : Ln} (t : LT H P q) (h : AtL K H v l) : AtL K (hp P H) v l := by
  obtain ⟨a, u, w, rfl, h1, h2, h3⟩ := h
  exact ⟨a, u, w, rfl, dnT t h1, dn2 t h2, dn2 t h3⟩
theorem AtL.sameX {v : V} {l : Ln} (h : AtL K H v l) (t : LT H P q) (s : SameX P H H') : AtL K H' v l := (dnL t h).same s.to
theorem seX {a : Addr} {xs : List V} (t : LT H P q) (s : SameX P H H') (h : SqT K H a xs) : SqT K H' a xs := seT s.to (dnT t h)
end
def tLamK (X : Cx) (P : Addr) (params : Arguments) (body : Expr) (scope : Scope) : TE := fun _ H Q => LT H P (X.env.qual ++ "<lambda>") ∧ ∀ f c' H1, SameX P H H1 → LT H1 P (X.env.qual ++ "<lambda>") →
  H1 f = some (LamO X params body scope c' f) → H1 c' = some (LamX.CodeO c' (X.env.qual ++ "<lambda>")) → Q (.ref f) H1
/-- what max by key asks behind its argument v -/
def keyQ (X : Cx) (P : Addr) (t : TE) (σ : L2.St) (Q : VK) (v : V) (H1 : Hp) : Prop := ∃ (tt : Addr) (vs : List V) (kf : Nat → Int), v = .ref tt ∧ SqT X.K H1 tt vs ∧ 0 < vs.length ∧ LT H1 P (X.env.qual ++ "<lambda>") ∧
  (∀ i x H2, vs[i]? = some x → SameX P H1 H2 → LT H2 P (X.env.qual ++ "<lambda>") → t (some x :: σ) H2 (fun y H3 => y = .int (kf i) ∧ Same H2 H3)) ∧
  ∀ i x H2, vs[i]? = some x → (∀ j, j < vs.length → kf i ≥ kf j ∧ (j < i → kf i > kf j)) → SameX P H1 H2 → LT H2 P (X.env.qual ++ "<lambda>") → Q x H2
def keyQs (X : Cx) (P : Addr) (t : TE) (σ : L2.St) (Q : VK) : List V → Hp → Prop
  | [v], H1 => keyQ X P t σ Q v H1
  | _, _ => False
def tMaxKey (X : Cx) (P : Addr) (t te : TE) : TE := fun σ H Q => te σ H (keyQ X P t σ Q)
section
variable {X : Cx}
theorem pe_lamK {c P : Addr} {params : Arguments} {body : Expr} {scope : Scope} {a : Str} {pos : Pos} (TB : GxR.TabB X.base X.mg c P) (hcode : X.env.code = .ref c) (L : LamK X.env.scope scope a) (hdef : defaultsOf params X.env = ([], [])) :
    PE X (.Lambda params body scope pos) (tLamK X P params body scope) :=
  ⟨fun pins s σ H Q I h => lam_make3 I TB hcode h.1 hdef (L.has I.ok) fun f c' H1 s' I1 sx lt hf hc => ⟨.ref f, H1, I1, rfl, h.2 f c' H1 sx lt hf hc⟩⟩
theorem pe_maxKey {k : Nat} {c P : Addr} {e : Expr} {params : Arguments} {body : Expr} {scope : Scope} {a : Str} {p pos lp kp : Pos} {t te : TE} (hr : RG (k + 2) X.A) (hg : Gl X "max") (hm : X.mg "max" = none) (TB : GxR.TabB X.base X.mg c P) (hcode : X.env.code = .ref c)
    (L : LamK X.env.scope scope a) (ha : a ∉ X.N) (hdef : defaultsOf params X.env = ([], []))
    (hbind : ∀ (q : Str) (cl : List (Str × Addr)) (pm cv ctv u : Value), bindArgs (PySem.W.kla_fn "<lambda>" q params body scope cl pm cv ctv) ⟨[u], []⟩ = pure [(a, u)])
    (he : PE X e te) (hbody : ∀ (A : Around) (outer : List Env) (s : Shared) (H : Hp) (f c' : Addr), RG k (A.deeper (LamX.lamEnv X scope s.heap.objs.size f c')) → PE (lamCx1 X a A outer s H scope f c') body t)
    (hs1 : starEach [e] X.env = (false, eval e X.env) :: starEach [] X.env := by rfl) :
    PE X (.Call (.Name "max" p) [e] [⟨some "key", .Lambda params body scope lp, kp⟩] pos) (tMaxKey X P t te) := by
  refine ⟨fun pins s σ H Q I h => ?_⟩
  refine wpAny_Call_Name_kw (ld_blt I hg hm PyProof.Rows.boot_max ?_ (by decide) (by decide))
  have hargs : PA X [e] _ := pa_cons he pa_nil (hs := hs1)
  have hk : PK X [⟨some "key", .Lambda params body scope lp, kp⟩] _ := pk_cons (pe_lamK (P := P) TB hcode L hdef) pk_nil
  refine PyProof.Rows.callWith_kw (thn (hargs.run pos pins s σ H (keyQs X P t σ Q) I h) fun us s1 ⟨vs0, H1, I1, r1, q1⟩ => ?_) (by rw [hs1]; rfl) (by rw [hs1]; rfl) (by rfl) (by rfl)
  obtain ⟨v, rfl⟩ : ∃ v, vs0 = [v] := by
    match vs0, q1 with
    | [v], _ => exact ⟨v, rfl⟩
    | [], q => exact False.elim q
    | _ :: _ :: _, q => exact False.elim q
  obtain ⟨tt, vs, kf, rfl, hS, hne, lt1, ht, hq⟩ := q1
  obtain ⟨u, rfl, ru⟩ := vals1 r1
  cases ru
  refine thn (hk.run pos pins s1 σ H1 (fun ws H2 => ∃ f c', ws = [.ref f] ∧ SameX P H1 H2 ∧ LT H2 P (X.env.qual ++ "<lambda>") ∧ H2 f = some (LamO X params body scope c' f) ∧ H2 c' = some (LamX.CodeO c' (X.env.qual ++ "<lambda>"))) I1 ?_) fun ws s2 ⟨zs, H2, I2, r2, q2⟩ => ?_
  · exact ⟨lt1, fun f c' H2 sx lt hf hc => ⟨f, c', rfl, sx, lt, hf, hc⟩⟩
  obtain ⟨f, c', rfl, sx, lt2, hf, hc⟩ := q2
  obtain ⟨u, rfl, ru⟩ := vals1 r2
  cases ru
  have hS2 := seX lt1 sx hS
  show wpAny _ _ (call (.builtin "max") [.ref tt] [(Str.ofString "key", .ref f)]) _ _ s2
  refine max_keyI kf hr.room.hd I2 hS2 hne (fun i x u pins' H3 s3 hx rel I3 sm => ?_) fun i x u H3 s3 hx rel best I3 sm => ?_
  · refine wpAny_mono (call_key (k := k) I3 L ha (sm _ _ hf) (sm _ _ hc) hbind hr (fun A outer s H hr' => hbody A outer s H f c' hr') rel (ht i x H3 hx (sx.trans sm.x) (sm.lt lt2))) (fun y s4 hy => ?_) fun _ _ z => z
    obtain ⟨yv, H4, I4, ry, e, sm4⟩ := hy
    exact ⟨yv, H4, I4, ry, e, sm.trans sm4⟩
  · exact ⟨x, H3, I3, rel, hq i x H3 hx best (sx.trans sm.x) (sm.lt lt2)⟩
end
end Cl

set_option maxHeartbeats 0
namespace Cl
open PySem PySem.Spec PyProof.Rows L2
/-! ### dicts whose keys are pairs of numbers -/
section
variable {X : Cx} {pins : List (Addr × Obj)} {σ : L2.St} {H : Hp} {s : Shared}
/-- setdefault of a dict with tuple keys -/
theorem setd_pairs {a b : Addr} {kvs : List (List Key × V)} {k : List Key} {d : V} {r : Value} {A : Around} {E : Value → Shared → Prop} {Q : Value → Shared → Prop} (hu : A.units + 1 < cLine) (I : Inv X pins σ H s)
    (e : H a = some (.dT kvs)) (eb : H b = some (.tup (k.map kV))) (rd : RelV d r) (l : kvs.length < sizeLine)
    (q1 : ∀ v, valV kvs k = some v → ∀ (w' : Value) (s' : Shared), Inv X pins σ H s' → RelV v w' → Q w' s')
    (q2 : valV kvs k = none → ∀ (s' : Shared), Inv X pins σ (upd H a (.dT (putK kvs k d))) s' → Q r s') :
    wpAny (model X.prog X.w) A (call (.builtin "dict.setdefault") [.ref a, .ref b, r]) Q E s := by
  obtain ⟨hz0, lo, xs, rel, dd⟩ := dt_of I.hok e
  have hxs : xs.length ≤ sizeLine := (Paired.length rel) ▸ hz0
  have rv := rel.val k
  refine call_setdefault_heap (knd := tupleKind (mixKind X.prog X.w)) (k := k) (tupleKind_room_in1 hu) (key_of I.hok eb) lo dd (fun p hp => ?_) (fun hn h' d2 sb => ?_) hxs
  · rw [hp] at rv
    cases ev : valV kvs k with
    | none => rw [ev] at rv; exact (show False from rv).elim
    | some v0 => rw [ev] at rv; exact q1 v0 ev _ _ (I.tok _) rv
  · rw [hn] at rv
    cases ev : valV kvs k with
    | some v0 => rw [ev] at rv; exact (show False from rv).elim
    | none =>
      have ln := length_putK kvs k d
      obtain ⟨o, es, ep, ho, g2, g3, g4, _, g5⟩ := d2
      refine q2 ev _ (d_write I (by rw [e]; exact True.intro) sb ⟨o, ho⟩ ⟨by omega, lo, _, (rel.put k eb rd).keeps fun c ys ec => ?_, o, es, ep, ho, g2, g3, g4, g5⟩)
      rw [upd_ne (ne_of ec e fun z => nomatch z)]
      exact ec
end
/-- d.setdefault(t, x), t a tuple -/
def tSetdT (td ty tx : TE) : TE := fun σ H Q => td σ H fun x H1 => ∃ a, x = .ref a ∧ (∃ kvs, H1 a = some (.dT kvs)) ∧ ty σ H1 fun y H2 => tx σ H2 fun z H3 => ∃ (kvs : List (List Key × V)) (k : List Key) (b : Addr),
  H3 a = some (.dT kvs) ∧ y = .ref b ∧ H3 b = some (.tup (k.map kV)) ∧ kvs.length < sizeLine ∧ (∀ v, valV kvs k = some v → Q v H3) ∧ (valV kvs k = none → Q z (upd H3 a (.dT (putK kvs k z))))
section
variable {X : Cx} {o e f : Expr} {td ty tx : TE} {apos cpos : Pos}
theorem pe_setdT (hu : X.A.units + 64 < cLine) (ho : PE X o td) (he : PE X e ty) (hf : PE X f tx) (m : M2 X o "setdefault" apos e f cpos) : PE X (.Call (.Attribute o "setdefault" apos) [e, f] [] cpos) (tSetdT td ty tx) := by
  constructor
  intro pins s σ H Q I hq
  refine wpAny_Call_method m.base m.few m.line PySem.F.plainAttrs_dict PySem.F.slot_dict_setdefault PySem.F.type_dict_setdefault (thn (ho.run pins s σ H _ I hq) fun u s1 hs1 => ?_)
  obtain ⟨x, H1, I1, rx, a, ex, ⟨kv0, d0⟩, q1⟩ := hs1
  subst ex
  cases rx
  obtain ⟨t1, t2, _⟩ := isD_at I1 (.inr ⟨kv0, .inl d0⟩)
  refine ⟨t1, t2, ?_⟩
  rw [m.trees]
  refine Calls.callWith_builtin rfl (Calls.evalArgs_plain (Calls.spliced_cons (thn (he.run pins s1 σ H1 _ I1 q1) fun iv s2 hs2 => ?_)))
  obtain ⟨y, H2, I2, ry, q2⟩ := hs2
  refine Calls.spliced_cons (thn (hf.run pins s2 σ H2 _ I2 q2) fun fv s3 hs3 => Calls.spliced_nil ?_)
  obtain ⟨z, H3, I3, rz, kvs, k, b, ea, ey, eb, hl, q3, q4⟩ := hs3
  subst ey
  cases ry
  exact setd_pairs (by omega) I3 ea eb rz hl (fun v hv w' s4 I4 rw' => ⟨v, _, I4, rw', q3 v hv⟩) fun hn s4 I4 => ⟨z, _, I4, rz, q4 hn⟩
end
/-! ### sorted(d), d a dict whose keys are pairs of numbers, any number of them -/
def pkey (p : Int × Int) : List Key := [Sum.inl p.1, Sum.inl p.2]
/-- the pair that stands at an address -/
def ptAt (H : Hp) (b : Addr) : Int × Int := match H b with
  | some (.tup [.int i, .int j]) => (i, j)
  | _ => (0, 0)
def ptV (H : Hp) : Value → Int × Int
  | .ref b => ptAt H b
  | _ => (0, 0)
theorem ptAt_eq {H : Hp} {b : Addr} {p : Int × Int} (h : H b = some (.tup ((pkey p).map kV))) : ptAt H b = p := by
  unfold ptAt
  rw [h]
  rfl
def adV : Value → Addr
  | .ref b => b
  | _ => sysModules
/-- x behind y nowhere -/
def leP (p q : Int × Int) : Prop := SrtO.lexB q p = false
def rSortPt : List V → Hp → VK → Prop := fun vs H Q => ∃ (d : Addr) (kvs : List (List Key × V)) (ps : List (Int × Int)), vs = [.ref d] ∧ H d = some (.dT kvs) ∧ kvs.map (·.1) = ps.map pkey ∧
  ∀ ys : List (Addr × (Int × Int)), (ys.map (·.2)).Perm ps → (ys.map (·.2)).Pairwise leP → (∀ y ∈ ys, H y.1 = some (.tup [.int y.2.1, .int y.2.2])) → New H (.lst (ys.map fun y => V.ref y.1)) Q
section
variable {X : Cx}
theorem paired_keys {H : Hp} : ∀ {kvs : List (List Key × V)} {ks : List (List Key × Addr × Value)} {ps : List (Int × Int)}, KT H kvs ks → kvs.map (·.1) = ps.map pkey → ks.map (fun x => ptAt H x.2.1) = ps ∧ ∀ x ∈ ks, ∃ p : Int × Int, H x.2.1 = some (.tup [.int p.1, .int p.2])
  | [], _, [], .nil, _ => ⟨rfl, fun _ h => nomatch h⟩
  | [], _, _ :: _, .nil, e => nomatch e
  | _ :: _, _ :: _, [], .cons _ _, e => nomatch e
  | kv :: kvs, k :: ks, p :: ps, .cons h t, e => by
    rw [List.map_cons, List.map_cons] at e
    obtain ⟨e1, e2⟩ := List.cons.inj e
    obtain ⟨i1, i2⟩ := paired_keys t e2
    have h2 : H k.2.1 = some (.tup ((pkey p).map kV)) := by rw [← e1]; exact h.2.1
    refine ⟨by rw [List.map_cons, i1, ptAt_eq h2], fun x hx => ?_⟩
    rcases List.mem_cons.mp hx with rfl | hx
    · exact ⟨p, h2⟩
    · exact i2 x hx
theorem cr_sortPt (hc : X.calm = true) : CallR X (.builtin "sorted") rSortPt := by
  intro pins s σ H vs us Q I r h
  obtain ⟨d, kvs, ps, rfl, hd, hk, q⟩ := h
  obtain ⟨u, rfl, rx⟩ := vals1 r
  cases rx
  obtain ⟨hz0, lo, ks, pr, o, es, ep, ho, hx, hdt, he, hn⟩ := (I.hok d _ hd : ObjOk X.prog X.w H s.heap d (.dT kvs))
  obtain ⟨c1, c2⟩ := paired_keys pr hk
  have l1 : es.size = ks.length := size_of_entries he
  have l2 : kvs.length = ks.length := Paired.length pr
  refine Calls.call_function_entry kind_sorted plain_sorted entry_sorted (args_sorted1 _) ?_
  unfold Builtin.«sorted»
  refine wpAny_bind (m := checkCount "sorted" 1 1 _) (wpAny_pure (wpAny_bind (PySem.W.kdu_collect (A := X.A.in1) (kdl_raw lo hx hdt) (I.ok.hd hc) ho (by omega) fun h' tk acc hkp it => ?_)))
  have ea : acc.toList = ks.map fun x => Value.ref x.2.1 := by
    apply List.ext_getElem?
    intro j
    have lt1 : acc.toList.length = ks.length := by rw [Array.length_toList, it.1, l1]
    by_cases hj : j < ks.length
    · obtain ⟨en, hen, hv⟩ := it.2 j _ (Array.getElem?_eq_getElem (by rw [it.1, l1]; exact hj))
      have qe := entry_at he j
      rw [hen, List.getElem?_eq_getElem hj] at qe
      rw [Array.getElem?_toList, Array.getElem?_eq_getElem (by rw [it.1, l1]; exact hj), List.getElem?_map, List.getElem?_eq_getElem hj, hv, Option.some.inj qe]
      rfl
    · rw [List.getElem?_eq_none (by omega), List.getElem?_eq_none (by rw [List.length_map]; omega)]
  have I1 : Inv X pins σ H { s with heap := h', toks := tk } := I.kept hkp
  have la : acc.toList.length ≤ sizeLine := by rw [ea, List.length_map]; omega
  refine wpAny_bind (wpAny_newList ?_ la)
  have hoL : (h'.push (seqObj "list" acc.toList.toArray 0)).get? h'.objs.size = some (seqObj "list" acc.toList.toArray 0) := Heap.get?_push_size _ rfl
  have mem : ∀ v ∈ acc.toList, ∃ (b : Addr) (p : Int × Int), v = .ref b ∧ H b = some (.tup [.int p.1, .int p.2]) := fun v hv => by
    rw [ea] at hv
    obtain ⟨x, hx1, rfl⟩ := List.mem_map.mp hv
    obtain ⟨p, hp⟩ := c2 x hx1
    exact ⟨_, p, rfl, hp⟩
  have prs : ∀ v ∈ acc.toList, Srt.IsPair (h'.push (seqObj "list" acc.toList.toArray 0)) v (ptV H v).1 (ptV H v).2 := fun v hv => by
    obtain ⟨b, p, rfl, hb⟩ := mem v hv
    have e2 : ptV H (.ref b) = p := ptAt_eq hb
    rw [e2]
    obtain ⟨_, its2, r2, ob, hob, hcl, n, hdd⟩ := I1.hok _ _ hb
    obtain ⟨u1, u2, rfl, ri, rj⟩ := vals2 r2
    obtain ⟨t1, rfl⟩ := ri
    obtain ⟨t2, rfl⟩ := rj
    exact ⟨b, ob, t1, t2, n, rfl, Heap.get?_push_of_some _ hob, hcl, hdd⟩
  refine wpAny_bind (wpAny_holding (wpAny_call_entry slot_list_sort ⟨_, hoL, rfl⟩ entry_list_sort (SrtO.list_sort_ord (s := { s with heap := h'.push (seqObj "list" acc.toList.toArray 0), toks := tk }) (ltv := fun v u => SrtO.lexB (ptV H v) (ptV H u)) (SrtO.swo_lex (ptV H)) hoL la (fun h2 => SrtO.pairs_sortableO (by omega) prs fun ob hob => ?_) fun out hs hb => ⟨_, rfl, ?_⟩) (args_list_sort _)))
  · rw [hoL] at hob
    cases hob
    exact fun z => absurd (Value.type.inj z) (by decide)
  obtain ⟨e', he'⟩ := sortedHeap_at (vs := acc.toList) (out := out.toArray) hoL
  have om : ∀ v ∈ out, ∃ (b : Addr) (p : Int × Int), v = .ref b ∧ H b = some (.tup [.int p.1, .int p.2]) := fun v hv => mem v (hb.perm.mem_iff.mp hv)
  have eo : out.map (fun v => V.ref (adV v)) = (out.map fun v => (adV v, ptV H v)).map fun y => V.ref y.1 := by rw [List.map_map]; rfl
  have rv : Vals ((out.map fun v => (adV v, ptV H v)).map fun y => V.ref y.1) out := by
    rw [← eo]
    clear hs hb he' eo
    induction out with
    | nil => exact .nil
    | cons v r ih =>
      obtain ⟨b, p, rfl, _⟩ := om v (List.mem_cons_self ..)
      exact .cons rfl (ih fun w hw => om w (List.mem_cons_of_mem _ hw))
  have q2 := q (out.map fun v => (adV v, ptV H v)) ?perm ?srt fun y hy => ?tup
  case perm =>
    rw [List.map_map, ← c1]
    have e3 : ks.map (fun x => ptAt H x.2.1) = acc.toList.map (ptV H) := by rw [ea, List.map_map]; rfl
    rw [e3]
    exact hb.perm.map (ptV H)
  case srt =>
    rw [List.map_map]
    exact List.pairwise_map.mpr hs
  case tup =>
    obtain ⟨v, hv, rfl⟩ := List.mem_map.mp hy
    obtain ⟨b, p, rfl, hb2⟩ := om v hv
    have e2 : ptV H (.ref b) = p := ptAt_eq hb2
    show H b = some (.tup [.int (ptV H (.ref b)).1, .int (ptV H (.ref b)).2])
    rw [e2]
    exact hb2
  have hl : ((out.map fun v => (adV v, ptV H v)).map fun y => V.ref y.1).length ≤ sizeLine := by
    rw [List.length_map, List.length_map, hb.len]
    exact la
  refine wpAny_pure ⟨_, rfl, .ref h'.objs.size, upd H h'.objs.size (.lst ((out.map fun v => (adV v, ptV H v)).map fun y => V.ref y.1)), I1.laid (t' := tk) (fun b u e => ?_) (Nat.le_refl _) ⟨hl, out, e', rv, he'⟩, rfl, q2.go _ (I1.hok.fresh (Nat.le_refl _))⟩
  have hlt : b < h'.objs.size := Heap.lt_size e
  rw [sortedHeap_old (Nat.ne_of_lt hlt) (by rw [size_push']; exact Nat.lt_succ_of_lt hlt)]
  exact Heap.get?_push_of_some _ e
end
end Cl

set_option maxHeartbeats 0
namespace Cl
open PySem PySem.Spec PyProof.Rows L2
/-! ### sorted lists of tuples of numbers and texts, any number of them -/
def vItem : V → Int ⊕ List Nat
  | .int i => .inl i
  | .str x => .inr x.cps.toList
  | _ => .inl 0
def fits (sh : Nat → Bool) : Nat → List V → Prop
  | _, [] => True
  | i, .int _ :: r => sh i = false ∧ fits sh (i + 1) r
  | i, .str _ :: r => sh i = true ∧ fits sh (i + 1) r
  | _, _ :: _ => False
theorem items_fit {sh : Nat → Bool} : ∀ {vs : List V} {us : List Value} {i : Nat}, Vals vs us → fits sh i vs → tupItems sh i us = some (vs.map vItem)
  | _, _, _, .nil, _ => rfl
  | v :: vs, u :: us, i, .cons r t, h => by
    cases v with
    | int k =>
      obtain ⟨tk, rfl⟩ := r
      obtain ⟨h1, h2⟩ := h
      show (if sh i = true then none else (tupItems sh (i + 1) us).map (Sum.inl k :: ·)) = _
      rw [if_neg (by rw [h1]; exact Bool.false_ne_true), items_fit t h2]
      rfl
    | str x =>
      obtain ⟨tk, rfl⟩ := r
      obtain ⟨h1, h2⟩ := h
      show (if sh i = true then (tupItems sh (i + 1) us).map (Sum.inr x.cps.toList :: ·) else none) = _
      rw [if_pos h1, items_fit t h2]
      rfl
    | _ => exact h.elim
theorem fit_first {sh : Nat → Bool} {v : V} {vs : List V} {u : Value} (r : RelV v u) (h : fits sh 0 (v :: vs)) : (sh 0 = false → ∃ k t, u = .int k t) ∧ (sh 0 = true → ∃ x t, u = .str x t) := by
  cases v with
  | int k =>
    obtain ⟨tk, rfl⟩ := r
    exact ⟨fun _ => ⟨_, _, rfl⟩, fun z => absurd (h.1.symm.trans z) (by decide)⟩
  | str x =>
    obtain ⟨tk, rfl⟩ := r
    exact ⟨fun z => absurd (h.1.symm.trans z) (by decide), fun _ => ⟨_, _, rfl⟩⟩
  | _ => exact h.elim
theorem tups_all {h : Heap} {sh : Nat → Bool} : ∀ {vs : List Value}, (∀ v ∈ vs, ∃ f, TupOf h sh v f) → ∃ fs, TupsOf h sh vs fs ∧ fs.length = vs.length
  | [], _ => ⟨[], .nil, rfl⟩
  | v :: vs, a => by
    obtain ⟨f, hf⟩ := a v (List.mem_cons_self ..)
    obtain ⟨fs, h1, h2⟩ := tups_all fun w hw => a w (List.mem_cons_of_mem _ hw)
    exact ⟨f :: fs, .cons hf h1, by rw [List.length_cons, List.length_cons, h2]⟩
abbrev ltT (a b : List (Int ⊕ List Nat)) : Bool := lexLt itemOrd a b
theorem swoT {α : Type} (k : α → List (Int ⊕ List Nat)) : SrtO.Swo fun x y => ltT (k x) (k y) := by
  refine ⟨fun x y h => ?_, fun x y z h1 h2 => ?_⟩
  · cases e : ltT (k y) (k x) with
    | false => rfl
    | true => exact ((lex_irrefl (O := itemOrd) (k x)).symm.trans (lex_trans (O := itemOrd) _ _ _ h e)).symm
  · cases e : ltT (k z) (k x) with
    | false => rfl
    | true =>
      rcases lex_negTrans (O := itemOrd) (k z) (k y) (k x) e with w | w
      · exact (h2.symm.trans w).symm
      · exact (h1.symm.trans w).symm
def rSortTup (K : PySem.W.Frag) (sh : Nat → Bool) : List V → Hp → VK → Prop := fun vs H Q => ∃ (a : Addr) (xs : List V) (ct : V → List V), vs = [.ref a] ∧ SqL K H a xs ∧
  (∀ x ∈ xs, ∃ t, x = .ref t ∧ SqT K H t (ct x) ∧ fits sh 0 (ct x) ∧ ct x ≠ []) ∧
  ∀ ys : List V, ys.Perm xs → ys.Pairwise (fun x y => ltT ((ct y).map vItem) ((ct x).map vItem) = false) → New H (.lst ys) Q
section
variable {X : Cx}
theorem cr_sortTup (sh : Nat → Bool) : CallR X (.builtin "sorted") (rSortTup X.K sh) := by
  intro pins s σ H vs us Q I r h
  obtain ⟨a, xs, ct, rfl, hs, hx, q⟩ := h
  obtain ⟨u, rfl, ru⟩ := vals1 r
  cases ru
  obtain ⟨its, rv, hl, hz⟩ := I.list hs
  obtain ⟨e1, e2⟩ := refs_back rv fun x m => (hx x m).elim fun t w => ⟨t, w.1⟩
  have at_ : ∀ v ∈ its, ∃ (t : Addr) (ob : Obj) (zs : List Value) (n : Nat), v = .ref t ∧ s.heap.get? t = some ob ∧ ob.cls = .type "tuple" ∧ ob.data = .seq zs.toArray n ∧ Vals (ct (backV v)) zs ∧ fits sh 0 (ct (backV v)) ∧ ct (backV v) ≠ [] := fun v hv => by
    obtain ⟨t, rfl⟩ := e2 v hv
    have hm : V.ref t ∈ xs := by rw [e1]; exact List.mem_map.mpr ⟨_, hv, rfl⟩
    obtain ⟨t', e, ht, hf, hne⟩ := hx _ hm
    cases e
    obtain ⟨zs, rz, ⟨ob, hob, hcl, n, hdd⟩, _⟩ := I.tuple ht
    exact ⟨t, ob, zs, n, rfl, hob, hcl, hdd, rz, hf, hne⟩
  refine SrtO.sorted_ord (ltv := fun v u => ltT ((ct (backV v)).map vItem) ((ct (backV u)).map vItem)) (swoT _) hl.isList (by rw [← rv.length]; exact hz) (fun h2 h1 a1 ha1 kk h' keep => ⟨tuples' true, fun R E hq => ?_, fun p p' m m' => ?_⟩) fun out hs1 hb1 => ?_
  · obtain ⟨fs, t1, t2⟩ := tups_all (h := h') (sh := sh) (vs := its) fun v hv => by
      obtain ⟨t, ob, zs, n, rfl, hob, hcl, hdd, rz, hf, hne⟩ := at_ v hv
      obtain ⟨k1, k2⟩ := kk t ob hob
      cases hc : ct (backV (.ref t)) with
      | nil => exact absurd hc hne
      | cons v0 vr =>
        rw [hc] at rz hf
        cases rz with
        | cons r0 rr =>
          obtain ⟨f1, f2⟩ := fit_first r0 hf
          exact ⟨_, t, ob, _, n, rfl, keep t ob k1 k2, hcl, hdd, rfl, f1, f2⟩
    exact tup_kind (by omega) t1 hq
  · have key : ∀ v ∈ its, (tupKind h' sh).keyOf v = some ((ct (backV v)).map vItem) := fun v hv => by
      obtain ⟨t, ob, zs, n, rfl, hob, hcl, hdd, rz, hf, hne⟩ := at_ v hv
      obtain ⟨k1, k2⟩ := kk t ob hob
      show tupKey h' sh (.ref t) = _
      simp only [tupKey, keep t ob k1 k2, hdd]
      exact items_fit rz hf
    exact tup_ltAt (s := { s with heap := h' }) true _ _ p.1 p'.1 _ _ (key _ m) (key _ m') ⟨rfl, rfl⟩
  · have h3 : ∀ u ∈ out, ∃ b, u = Value.ref b := fun u hu => e2 u (hb1.perm.mem_iff.mp hu)
    have pm : (out.map backV).Perm xs := by rw [e1]; exact hb1.perm.map backV
    obtain ⟨n, hn⟩ := sortedAll_at s.heap its out.toArray
    have q2 := q (out.map backV) pm (List.pairwise_map.mpr hs1)
    exact ⟨.ref (s.heap.objs.size + 1), _, I.laid (t' := s.toks) (o := .lst (out.map backV)) (fun b o e => sortedAll_old e) (Nat.le_succ _) ⟨by rw [pm.length_eq]; exact hz, out, n, vals_back h3, hn⟩, rfl, q2.go _ (I.hok.fresh (Nat.le_succ _))⟩
end
end Cl

namespace Cl
open PySem PySem.Spec PyProof.Rows L2
/-! ### comprehensions with two fors over tuples -/
theorem genT {K : PySem.W.Frag} {a : Addr} {xs : List V} {H0 : Hp} {Qd : Hp → Prop} {BODY : V → Hp → (Hp → Prop) → Prop} (Pv : Nat → Hp → Prop) (h0 : Pv 0 H0) (hl : ∀ i H, i ≤ xs.length → Pv i H → SqT K H a xs)
    (hs : ∀ i x H, xs[i]? = some x → Pv i H → BODY x H (Pv (i + 1))) (hd : ∀ H, Pv xs.length H → Qd H) :
    ∃ W : Nat → Nat → Hp → Prop, (∃ m, W 0 m H0) ∧ ∀ i m H, W i m H → ((Itt K a).stop i H ∧ Qd H) ∨ ((Itt K a).go i H ∧ ∃ Nx : Hp → Prop, (∀ H', Nx H' → ∃ m', m' < m ∧ W (i + 1) m' H') ∧ ∀ x H', (Itt K a).yld i H x H' → BODY x H' Nx) := by
  refine ⟨fun i m H => m = xs.length - i ∧ i ≤ xs.length ∧ Pv i H, ⟨xs.length, by simp, Nat.zero_le _, h0⟩, ?_⟩
  rintro i m H ⟨rfl, hi, p⟩
  have q := hl i H hi p
  by_cases hlt : i < xs.length
  · refine .inr ⟨⟨xs, xs[i], q, List.getElem?_eq_getElem hlt⟩, Pv (i + 1), fun H' p' => ⟨xs.length - (i + 1), by omega, rfl, hlt, p'⟩, fun x H' y => ?_⟩
    obtain ⟨e, y⟩ := y
    subst e
    exact hs i x _ (y xs q) p
  · have e : i = xs.length := by omega
    subst e
    exact .inl ⟨⟨xs, q, Nat.le_refl _⟩, hd H p⟩
section
variable {X : Cx} {K : PySem.W.Frag} {tg e : Expr} {te : TE}
theorem pi_tupk (hK : X.K = K) (h : PE X e te) : PI X tg e (iTup K te) := hK ▸ pi_tup h
theorem pi_listk (hK : X.K = K) (h : PE X e te) : PI X tg e (iList K te) := hK ▸ pi_list h
end
end Cl

set_option maxHeartbeats 0
namespace Cl
open PySem PySem.Spec PyProof.Rows L2
/-! ### rows of corners and what wants them -/
abbrev Wt := Str × Int × Int
abbrev Rw := Pt × Wt
def wV (w : Wt) : List V := [.str w.1, .int w.2.1, .int w.2.2]
def dW (w : Wt) : PyData := .tuple [.str w.1, .int w.2.1, .int w.2.2]
def wLe (a b : Wt) : Prop := ltT ((wV b).map vItem) ((wV a).map vItem) = false
theorem str_ext {s t : Str} (h : s.cps.toList = t.cps.toList) : s = t := by
  cases s
  cases t
  simp only at h
  congr
  exact Array.toList_inj.mp h
theorem wLe_antisymm {a b : Wt} (h1 : wLe a b) (h2 : wLe b a) : a = b := by
  have e := lex_total (O := itemOrd) _ _ h2 h1
  obtain ⟨s, i, j⟩ := a
  obtain ⟨t, k, l⟩ := b
  simp only [wV, vItem, List.map_cons, List.map_nil, List.cons.injEq, and_true, Sum.inr.injEq, Sum.inl.injEq] at e
  obtain ⟨e1, e2, e3⟩ := e
  rw [str_ext e1, e2, e3]
def wsOf (R : List Rw) (p : Pt) : List Wt := (R.filter fun r => decide (r.1 = p)).map (·.2)
theorem wsOf_app (R S : List Rw) (p : Pt) : wsOf (R ++ S) p = wsOf R p ++ wsOf S p := by
  unfold wsOf
  rw [List.filter_append, List.map_append]
theorem wsOf_same (R : List Rw) (r : Rw) : wsOf (R ++ [r]) r.1 = wsOf R r.1 ++ [r.2] := by
  rw [wsOf_app]
  congr 1
  unfold wsOf
  simp
theorem wsOf_else (R : List Rw) (r : Rw) (p : Pt) (h : r.1 ≠ p) : wsOf (R ++ [r]) p = wsOf R p := by
  rw [wsOf_app]
  have : wsOf [r] p = [] := by unfold wsOf; simp [h]
  rw [this, List.append_nil]
theorem wsOf_perm {R S : List Rw} (h : R.Perm S) (p : Pt) : (wsOf R p).Perm (wsOf S p) := (h.filter _).map _
/-- the corners, rising, each with what wants it, rising -/
structure IsDue (R : List Rw) (L : List (Pt × List Wt)) : Prop where
  srt : (L.map (·.1)).Pairwise leP
  nd : (L.map (·.1)).Nodup
  ws : ∀ e ∈ L, e.2.Perm (wsOf R e.1) ∧ e.2.Pairwise wLe
  mem : ∀ p, p ∈ L.map (·.1) ↔ ∃ r ∈ R, r.1 = p
theorem leP_antisymm {p q : Pt} (h1 : leP p q) (h2 : leP q p) : p = q := by
  have h1 := SrtO.lexB_no.mp h1
  have h2 := SrtO.lexB_no.mp h2
  exact Prod.ext (by omega) (by omega)
theorem nodup_perm {α : Type} [DecidableEq α] : ∀ {l m : List α}, l.Nodup → m.Nodup → (∀ x, x ∈ l ↔ x ∈ m) → l.Perm m := fun h1 h2 h => (List.perm_ext_iff_of_nodup h1 h2).mpr h
theorem keys_eq {a b : List Pt} (s1 : a.Pairwise leP) (s2 : b.Pairwise leP) (n1 : a.Nodup) (n2 : b.Nodup) (h : ∀ x, x ∈ a ↔ x ∈ b) : a = b :=
  List.Perm.eq_of_pairwise (fun _ _ _ _ => leP_antisymm) s1 s2 (nodup_perm n1 n2 h)
theorem due_eq : ∀ {L M : List (Pt × List Wt)}, L.map (·.1) = M.map (·.1) → (∀ e ∈ L, ∀ f ∈ M, e.1 = f.1 → e.2 = f.2) → L = M
  | [], [], _, _ => rfl
  | [], _ :: _, h, _ => by cases h
  | _ :: _, [], h, _ => by cases h
  | e :: L, f :: M, h, w => by
    rw [List.map_cons, List.map_cons] at h
    obtain ⟨h1, h2⟩ := List.cons.inj h
    have e2 := w e (List.mem_cons_self ..) f (List.mem_cons_self ..) h1
    rw [due_eq h2 fun x hx y hy => w x (List.mem_cons_of_mem _ hx) y (List.mem_cons_of_mem _ hy)]
    rw [show e = f from Prod.ext h1 e2]
theorem IsDue.eq {R S : List Rw} {L M : List (Pt × List Wt)} (a : IsDue R L) (b : IsDue S M) (h : R.Perm S) : L = M := by
  refine due_eq (keys_eq a.srt b.srt a.nd b.nd fun p => ?_) fun e he f hf ef => ?_
  · rw [a.mem, b.mem]
    constructor
    · rintro ⟨r, hr, z⟩
      exact ⟨r, h.mem_iff.mp hr, z⟩
    · rintro ⟨r, hr, z⟩
      exact ⟨r, h.mem_iff.mpr hr, z⟩
  · obtain ⟨p1, q1⟩ := a.ws e he
    obtain ⟨p2, q2⟩ := b.ws f hf
    refine List.Perm.eq_of_pairwise (fun _ _ _ _ => wLe_antisymm) q1 q2 (p1.trans ?_)
    rw [ef]
    exact (wsOf_perm h _).trans p2.symm
/-! ### where they stand -/
def AtW (H : Hp) (v : V) (w : Wt) : Prop := ∃ a, v = .ref a ∧ H a = some (.tup (wV w))
def AtRw (H : Hp) (v : V) (r : Rw) : Prop := ∃ p c w, v = .ref p ∧ H p = some (.tup [.ref c, .ref w]) ∧ H c = some (.tup [.int r.1.1, .int r.1.2]) ∧ H w = some (.tup (wV r.2))
def AtWk (K : PySem.W.Frag) (H : Hp) (v : V) (w : Wt) : Prop := ∃ a, v = .ref a ∧ SqT K H a (wV w)
def AtD (K : PySem.W.Frag) (H : Hp) (v : V) (e : Pt × List Wt) : Prop := ∃ a u b ws, v = .ref a ∧ SqT K H a [u, .ref b] ∧ At2 K H u e.1 ∧ SqT K H b ws ∧ AllAt (AtWk K H) ws e.2
def AtDue (K : PySem.W.Frag) (H : Hp) (v : V) (L : List (Pt × List Wt)) : Prop := ∃ a vs, v = .ref a ∧ SqT K H a vs ∧ AllAt (AtD K H) vs L
section
variable {K : PySem.W.Frag} {H H' : Hp} {v : V}
theorem AtW.same {w : Wt} (h : AtW H v w) (s : Same H H') : AtW H' v w := by
  obtain ⟨a, e, h⟩ := h
  exact ⟨a, e, s _ _ h⟩
theorem AtRw.same {r : Rw} (h : AtRw H v r) (s : Same H H') : AtRw H' v r := by
  obtain ⟨p, c, w, e, h1, h2, h3⟩ := h
  exact ⟨p, c, w, e, s _ _ h1, s _ _ h2, s _ _ h3⟩
theorem AtWk.same {w : Wt} (h : AtWk K H v w) (s : Same H H') : AtWk K H' v w := by
  obtain ⟨a, e, h⟩ := h
  exact ⟨a, e, seT s h⟩
theorem AtW.wk {w : Wt} (h : AtW H v w) : AtWk K H v w := by
  obtain ⟨a, e, h⟩ := h
  exact ⟨a, e, .inl (.inl h)⟩
theorem AtD.same {e : Pt × List Wt} (h : AtD K H v e) (s : Same H H') : AtD K H' v e := by
  obtain ⟨a, u, b, ws, e, h1, h2, h3, h4⟩ := h
  exact ⟨a, u, b, ws, e, seT s h1, h2.same s, seT s h3, h4.map fun _ _ z => z.same s⟩
theorem AtDue.same {L : List (Pt × List Wt)} (h : AtDue K H v L) (s : Same H H') : AtDue K H' v L := by
  obtain ⟨a, vs, e, h1, h2⟩ := h
  exact ⟨a, vs, e, seT s h1, h2.map fun _ _ z => z.same s⟩
def dD (e : Pt × List Wt) : PyData := .tuple [pd e.1, .tuple (e.2.map dW)]
theorem wks_dp : ∀ {ws : List V} {ls : List Wt}, AllAt (AtWk K H) ws ls → DpAll K H ws (ls.map dW)
  | _, _, .nil => .nil
  | _, _, .cons h t => by
    obtain ⟨a, rfl, h⟩ := h
    exact .cons (.tup h (.cons (.str _) (.cons (.int _) (.cons (.int _) .nil)))) (wks_dp t)
theorem ds_dp : ∀ {ws : List V} {ls : List (Pt × List Wt)}, AllAt (AtD K H) ws ls → DpAll K H ws (ls.map dD)
  | _, _, .nil => .nil
  | _, _, .cons h t => by
    obtain ⟨a, u, b, ws, rfl, h1, h2, h3, h4⟩ := h
    exact .cons (.tup h1 (.cons h2.dp (.cons (.tup h3 (wks_dp h4)) .nil))) (ds_dp t)
theorem AtDue.dp {L : List (Pt × List Wt)} (h : AtDue K H v L) : Dp K H v (.tuple (L.map dD)) := by
  obtain ⟨a, vs, rfl, h1, h2⟩ := h
  exact .tup h1 (ds_dp h2)
end
/-! ### the dict of lists: by setdefault and append -/
def kvO (E : List (Pt × Addr)) : List (List Key × V) := E.map fun e => (pkey e.1, V.ref e.2)
theorem pkey_inj {p q : Pt} (h : pkey p = pkey q) : p = q := by
  unfold pkey at h
  simp at h
  exact Prod.ext h.1 h.2
theorem kv_val : ∀ {E : List (Pt × Addr)} {e : Pt × Addr}, (E.map (·.1)).Nodup → e ∈ E → valV (kvO E) (pkey e.1) = some (.ref e.2)
  | [], _, _, h => nomatch h
  | f :: E, e, nd, h => by
    rw [List.map_cons, List.nodup_cons] at nd
    unfold kvO
    rw [List.map_cons]
    rcases List.mem_cons.mp h with z | h
    · rw [z]
      exact valV_pos rfl
    · rw [valV_neg (fun z => nd.1 (List.mem_map.mpr ⟨e, h, (pkey_inj z).symm⟩))]
      exact kv_val nd.2 h
theorem kv_keys (E : List (Pt × Addr)) : (kvO E).map (·.1) = (E.map (·.1)).map pkey := by
  unfold kvO
  rw [List.map_map, List.map_map]
  rfl
theorem val_kv : ∀ {E : List (Pt × Addr)} {p : Pt} {v : V}, valV (kvO E) (pkey p) = some v → ∃ e ∈ E, e.1 = p ∧ v = .ref e.2
  | [], _, _, h => by cases h
  | e :: E, p, v, h => by
    by_cases c : e.1 = p
    · unfold kvO at h
      rw [List.map_cons, valV_pos (by rw [c])] at h
      exact ⟨e, List.mem_cons_self .., c, (Option.some.inj h).symm⟩
    · unfold kvO at h
      rw [List.map_cons, valV_neg (fun z => c (pkey_inj z))] at h
      obtain ⟨f, hf, r⟩ := val_kv (E := E) h
      exact ⟨f, List.mem_cons_of_mem _ hf, r⟩
theorem kv_none {E : List (Pt × Addr)} {p : Pt} (h : valV (kvO E) (pkey p) = none) : ∀ e ∈ E, e.1 ≠ p := fun e he z =>
  valV_not h (List.mem_map.mpr ⟨(pkey e.1, .ref e.2), List.mem_map.mpr ⟨e, he, rfl⟩, by rw [z]⟩)
theorem put_none {E : List (Pt × Addr)} {p : Pt} {L : Addr} (h : valV (kvO E) (pkey p) = none) : putK (kvO E) (pkey p) (.ref L) = kvO (E ++ [(p, L)]) := by
  unfold putK
  rw [valV_any, h]
  unfold kvO
  rw [List.map_append]
  rfl
/-- nothing stood there (or what nothing is known of) -/
def NotOld (H0 : Hp) (p : Addr) : Prop := ∀ o, H0 p = some o → ∃ ps, o = .tbl ps ∧ ¬ TriplesOk ps.toList
theorem notOld {H H' : Hp} {p : Addr} (s : Same H H') (n : H' p = none) : NotOld H p := fun o e => by
  have k := s p o e
  rw [n] at k
  cases o with
  | tbl ps => exact ⟨ps, rfl, fun t => by obtain ⟨_, z, _⟩ := k t; cases z⟩
  | _ => cases k
theorem Same.upNo {H H' : Hp} {p : Addr} {o : HO} (s : Same H H') (h : NotOld H p) : Same H (upd H' p o) := fun b x e => by
  by_cases c : b = p
  · subst c
    obtain ⟨ps, rfl, t⟩ := h x e
    exact fun z => absurd z t
  · rw [upd_ne c]
    exact s b x e
/-- the dict at d holds the rows R by their corners; its lists are newer than H0 -/
structure GrpAt (H0 : Hp) (d : Addr) (R : List Rw) (E : List (Pt × Addr)) (H : Hp) : Prop where
  dict : H d = some (.dT (kvO E))
  lst : ∀ e ∈ E, NotOld H0 e.2 ∧ ∃ vs, H e.2 = some (.lst vs) ∧ AllAt (AtW H) vs (wsOf R e.1)
  nl : (E.map (·.2)).Nodup
  nk : (E.map (·.1)).Nodup
  mem : ∀ p, (∃ e ∈ E, e.1 = p) ↔ ∃ r ∈ R, r.1 = p
section
variable {H0 H H' : Hp} {d : Addr} {R : List Rw} {E : List (Pt × Addr)}
theorem GrpAt.nil (e : H d = some (.dT [])) : GrpAt H0 d [] [] H :=
  ⟨e, fun _ h => (nomatch h), .nil, .nil, fun p => ⟨fun ⟨_, h, _⟩ => (nomatch h), fun ⟨_, h, _⟩ => (nomatch h)⟩⟩
theorem GrpAt.same (G : GrpAt H0 d R E H) (s : Same H H') : GrpAt H0 d R E H' :=
  ⟨s _ _ G.dict, fun e he => let ⟨a, vs, b, c⟩ := G.lst e he; ⟨a, vs, s _ _ b, c.map fun _ _ z => z.same s⟩, G.nl, G.nk, G.mem⟩
theorem nodup_inj {α β : Type} {f : α → β} : ∀ {l : List α}, (l.map f).Nodup → ∀ x ∈ l, ∀ y ∈ l, f x = f y → x = y
  | [], _, _, h, _, _, _ => by cases h
  | a :: l, h, x, hx, y, hy, e => by
    rw [List.map_cons, List.nodup_cons] at h
    rcases List.mem_cons.mp hx with hx' | hx
    · rcases List.mem_cons.mp hy with hy' | hy
      · rw [hx', hy']
      · exact absurd (List.mem_map.mpr ⟨y, hy, by rw [← e, hx']⟩) h.1
    · rcases List.mem_cons.mp hy with hy' | hy
      · exact absurd (List.mem_map.mpr ⟨x, hx, by rw [e, hy']⟩) h.1
      · exact nodup_inj h.2 x hx y hy e
theorem snoc_mem {r : Rw} (h : ∀ p, (∃ e ∈ E, e.1 = p) ↔ ∃ x ∈ R, x.1 = p) {E' : List (Pt × Addr)} (h2 : ∀ p, (∃ e ∈ E', e.1 = p) ↔ (∃ e ∈ E, e.1 = p) ∨ r.1 = p) : ∀ p, (∃ e ∈ E', e.1 = p) ↔ ∃ x ∈ R ++ [r], x.1 = p := fun p => by
  rw [h2, h]
  constructor
  · rintro (⟨x, hx, e⟩ | e)
    · exact ⟨x, List.mem_append.mpr (.inl hx), e⟩
    · exact ⟨r, List.mem_append.mpr (.inr (List.mem_singleton.mpr rfl)), e⟩
  · rintro ⟨x, hx, e⟩
    rcases List.mem_append.mp hx with z | z
    · exact .inl ⟨x, z, e⟩
    · rw [List.mem_singleton.mp z] at e
      exact .inr e
/-- the corner stands in the dict: its list grows -/
theorem GrpAt.there (G : GrpAt H0 d R E H) {r : Rw} {v : V} {w : V} (hv : valV (kvO E) (pkey r.1) = some v) (hw : AtW H w r.2) :
    ∃ L vs, v = .ref L ∧ NotOld H0 L ∧ H L = some (.lst vs) ∧ vs.length = (wsOf R r.1).length ∧ GrpAt H0 d (R ++ [r]) E (upd H L (.lst (vs ++ [w]))) := by
  obtain ⟨e, he, e1, rfl⟩ := val_kv hv
  obtain ⟨n, vs, h1, h2⟩ := G.lst e he
  have tw : ∀ {u : V} {x : Wt} {o : HO}, AtW H u x → AtW (upd H e.2 o) u x := fun {u x o} ⟨a, ea, ha⟩ => ⟨a, ea, by rw [upd_ne (ne_of ha h1 fun z => nomatch z)]; exact ha⟩
  refine ⟨e.2, vs, rfl, n, h1, by rw [h2.length, e1], ⟨?_, fun f hf => ?_, G.nl, G.nk, ?_⟩⟩
  · rw [upd_ne (ne_of G.dict h1 fun z => nomatch z)]
    exact G.dict
  · obtain ⟨n2, vs2, g1, g2⟩ := G.lst f hf
    refine ⟨n2, ?_⟩
    by_cases c : f.2 = e.2
    · have := nodup_inj G.nl f hf e he c
      subst this
      refine ⟨vs ++ [w], upd_same, ?_⟩
      rw [e1, wsOf_same]
      rw [e1] at h2
      exact (h2.map fun _ _ z => tw z).app (.cons (tw hw) .nil)
    · refine ⟨vs2, by rw [upd_ne c]; exact g1, ?_⟩
      rw [wsOf_else R r f.1 fun z => c (by rw [nodup_inj G.nk f hf e he (by rw [← z, e1])])]
      exact g2.map fun _ _ z => tw z
  · refine snoc_mem (E := E) G.mem fun p => ?_
    constructor
    · exact .inl
    · rintro (z | z)
      · exact z
      · exact ⟨e, he, by rw [e1, z]⟩
/-- it doesn't: a new list stands for it -/
theorem GrpAt.fresh (G : GrpAt H0 d R E H) {H2 : Hp} {r : Rw} {w : V} {P : Addr} (hv : valV (kvO E) (pkey r.1) = none) (n0 : NotOld H0 P) (nE : ∀ e ∈ E, e.2 ≠ P) (hP : H P = some (.lst []))
    (s : Same (upd H d (.dT (putK (kvO E) (pkey r.1) (.ref P)))) H2) (hw : AtW H2 w r.2) :
    H2 P = some (.lst []) ∧ GrpAt H0 d (R ++ [r]) (E ++ [(r.1, P)]) (upd H2 P (.lst ([] ++ [w]))) := by
  have dP : d ≠ P := ne_of G.dict hP fun z => nomatch z
  have no := kv_none hv
  have hP2 : H2 P = some (.lst []) := s P (.lst []) (by rw [upd_ne dP.symm]; exact hP)
  have hd2 : H2 d = some (.dT (kvO (E ++ [(r.1, P)]))) := s d (.dT (kvO (E ++ [(r.1, P)]))) (by rw [upd_same, put_none hv])
  have tw1 : ∀ {u : V} {x : Wt}, AtW H u x → AtW H2 u x := fun {u x} ⟨a, ea, ha⟩ => ⟨a, ea, s a (.tup (wV x)) (by rw [upd_ne (ne_of ha G.dict fun z => nomatch z)]; exact ha)⟩
  have tw : ∀ {u : V} {x : Wt} {o' : HO}, AtW H2 u x → AtW (upd H2 P o') u x := fun {u x o'} ⟨a, ea, ha⟩ => ⟨a, ea, by rw [upd_ne (ne_of ha hP2 fun z => nomatch z)]; exact ha⟩
  refine ⟨hP2, by rw [upd_ne dP]; exact hd2, fun f hf => ?_, ?_, ?_, ?_⟩
  · rcases List.mem_append.mp hf with hf | hf
    · obtain ⟨n2, vs2, g1, g2⟩ := G.lst f hf
      refine ⟨n2, vs2, by rw [upd_ne (nE f hf)]; exact s f.2 (.lst vs2) (by rw [upd_ne (ne_of g1 G.dict fun z => nomatch z)]; exact g1), ?_⟩
      rw [wsOf_else R r f.1 fun z => no f hf z.symm]
      exact g2.map fun _ _ z => tw (tw1 z)
    · rw [List.mem_singleton.mp hf]
      refine ⟨n0, [] ++ [w], upd_same, ?_⟩
      have e0 : wsOf R r.1 = [] := by
        unfold wsOf
        rw [List.filter_eq_nil_iff.mpr, List.map_nil]
        intro x hx z
        obtain ⟨e, he, e2⟩ := (G.mem r.1).mpr ⟨x, hx, of_decide_eq_true z⟩
        exact no e he e2
      show AllAt _ _ (wsOf (R ++ [r]) r.1)
      rw [wsOf_same, e0]
      exact .cons (tw hw) .nil
  · rw [List.map_append, List.nodup_append]
    refine ⟨G.nl, by simp, fun x hx y hy => ?_⟩
    obtain ⟨e, he, rfl⟩ := List.mem_map.mp hx
    rw [List.mem_singleton.mp hy]
    exact nE e he
  · rw [List.map_append, List.nodup_append]
    refine ⟨G.nk, by simp, fun x hx y hy => ?_⟩
    obtain ⟨e, he, rfl⟩ := List.mem_map.mp hx
    rw [List.mem_singleton.mp hy]
    exact no e he
  · refine snoc_mem (E := E) G.mem fun p => ?_
    constructor
    · rintro ⟨e, he, z⟩
      rcases List.mem_append.mp he with he | he
      · exact .inl ⟨e, he, z⟩
      · rw [List.mem_singleton.mp he] at z
        exact .inr z
    · rintro (⟨e, he, z⟩ | z)
      · exact ⟨e, List.mem_append.mpr (.inl he), z⟩
      · exact ⟨(r.1, P), List.mem_append.mpr (.inr (List.mem_singleton.mpr rfl)), z⟩
theorem GrpAt.len (G : GrpAt H0 d R E H) : E.length ≤ R.length := by
  have h1 : (E.map (·.1)).length ≤ (R.map (·.1)).length := List.Nodup.length_le_of_subset G.nk fun p hp => by
    obtain ⟨e, he, rfl⟩ := List.mem_map.mp hp
    obtain ⟨r, hr, z⟩ := (G.mem e.1).mp ⟨e, he, rfl⟩
    exact List.mem_map.mpr ⟨r, hr, z⟩
  simpa using h1
def ctOf (H : Hp) : V → List V
  | .ref a => match H a with
    | some (.tup xs) => xs
    | _ => []
  | _ => []
def unW : List V → Wt
  | [.str s, .int i, .int j] => (s, i, j)
  | _ => ("", 0, 0)
def wOf (H : Hp) (v : V) : Wt := unW (ctOf H v)
theorem AtW.ct {v : V} {w : Wt} (h : AtW H v w) : ctOf H v = wV w := by
  obtain ⟨a, rfl, h⟩ := h
  unfold ctOf
  simp only [h]
theorem AtW.wOf {v : V} {w : Wt} (h : AtW H v w) : wOf H v = w := by
  unfold Cl.wOf
  rw [h.ct]
  rfl
theorem allw_map : ∀ {vs : List V} {wl : List Wt}, AllAt (AtW H) vs wl → wl = vs.map (wOf H)
  | _, _, .nil => rfl
  | _, _, .cons h t => by rw [List.map_cons, h.wOf, ← allw_map t]
theorem allw_at : ∀ {vs : List V} {wl : List Wt}, AllAt (AtW H) vs wl → ∀ x ∈ vs, AtW H x (wOf H x)
  | _, _, .nil, _, h => nomatch h
  | _, _, .cons h t, x, hx => by
    rcases List.mem_cons.mp hx with e | hx
    · rw [e, h.wOf]
      exact h
    · exact allw_at t x hx
theorem all_map {α : Type} {Rr : V → α → Prop} {f : V → α} : ∀ {zs : List V}, (∀ x ∈ zs, Rr x (f x)) → AllAt Rr zs (zs.map f)
  | [], _ => .nil
  | z :: zs, h => .cons (h z (List.mem_cons_self ..)) (all_map fun x hx => h x (List.mem_cons_of_mem _ hx))
/-- sorted, of a list of wants -/
theorem sorted_wants {vs zs : List V} {wl : List Wt} (h : AllAt (AtW H) vs wl) (pm : zs.Perm vs) (pw : zs.Pairwise fun x y => ltT ((ctOf H y).map vItem) ((ctOf H x).map vItem) = false) :
    ∃ wl', AllAt (AtW H) zs wl' ∧ wl'.Perm wl ∧ wl'.Pairwise wLe := by
  have at_ : ∀ x ∈ zs, AtW H x (Cl.wOf H x) := fun x hx => allw_at h x (pm.mem_iff.mp hx)
  refine ⟨zs.map (Cl.wOf H), all_map at_, ?_, ?_⟩
  · rw [allw_map h]
    exact pm.map _
  · refine List.pairwise_map.mpr (pw.imp_of_mem fun {x y} hx hy e => ?_)
    unfold wLe
    rw [← (at_ x hx).ct, ← (at_ y hy).ct]
    exact e
theorem wsOf_len (R : List Rw) (p : Pt) : (wsOf R p).length ≤ R.length := by
  unfold wsOf
  rw [List.length_map]
  exact List.length_filter_le ..
end
def shW (i : Nat) : Bool := i == 0
theorem fits_wV (w : Wt) : fits shW 0 (wV w) := ⟨rfl, rfl, rfl, trivial⟩
theorem units1 {n : Nat} (h : n + 64 < cLine) : n + 1 < cLine := by omega
section
variable {X : Cx} {K : PySem.W.Frag}
theorem cr_sortTupk (hK : X.K = K) (sh : Nat → Bool) : CallR X (.builtin "sorted") (rSortTup K sh) := hK ▸ cr_sortTup sh
theorem call_tuple_ofNk (hK : X.K = K) : CallR X (.type "tuple") (fun xs H Q => ∃ p ys, xs = [.ref p] ∧ SqL K H p ys ∧ New H (.tup ys) Q) := hK ▸ call_tuple_ofN
end
end Cl

namespace Cl
open PySem PySem.Spec PyProof.Rows L2
/-! ### zip of two tuples within a comprehension -/
theorem walk_zipT {K : PySem.W.Frag} {a b : Addr} {xs ys : List V} {n : Nat} (hn : n = min xs.length ys.length) : Walk (RZ.ItzT K a b) n (fun H => SqT K H a xs ∧ SqT K H b ys) (YPair (fun i => xs[i]?) (fun i => ys[i]?)) := by
  subst hn
  refine ⟨fun i _ hi q => ?_, fun _ q => ⟨xs, ys, q.1, q.2, by omega⟩, fun i H v H' _ q y => ?_⟩
  · have h1 : i < xs.length := by omega
    have h2 : i < ys.length := by omega
    exact ⟨xs, ys, xs[i], ys[i], q.1, q.2, by simp [h1], by simp [h2]⟩
  · obtain ⟨T, x, z, h1, h2, h3, h4, h5⟩ := y
    exact ⟨T, x, z, h1, h2, h3, h4 xs q.1, h5 ys q.2⟩
def lcZT {K : PySem.W.Frag} {a b : Addr} {xs ys : List V} {n : Nat} {g : TG} {tt : TT} {te : TE} {vs : List Nat} {σ : L2.St} {H1 : Hp} {D : Addr} {Qd : Hp → Prop} (hn : n = min xs.length ys.length)
    (Pv : Nat → Hp → Prop) (hD : H1 D = none) (h0 : ∀ H', Same H1 H' → H' D = some (.lst []) → Pv 0 H') (hG : ∀ i H, i ≤ n → Pv i H → SqT K H a xs ∧ SqT K H b ys)
    (hs : ∀ i x H H', i < n → Pv i H → YPair (fun i => xs[i]?) (fun i => ys[i]?) i H x H' → g x (wipe σ vs) H' fun σ2 H2 => wipe σ2 vs = wipe σ vs ∧ tt σ2 H2 fun b H3 =>
      if b = true then te σ2 H3 fun y H4 => ∃ acc, H4 D = some (.lst acc) ∧ acc.length < sizeLine ∧ Pv (i + 1) (upd H4 D (.lst (acc ++ [y]))) else Pv (i + 1) H3)
    (hd : ∀ H, Pv n H → Qd H) := lc_it (walk_zipT (K := K) (a := a) (b := b) hn) (g := g) (tt := tt) (te := te) (vs := vs) (σ := σ) (H1 := H1) (D := D) (Qd := Qd) Pv (h0 _ (same_new hD) upd_same) hG hs hd
end Cl

namespace Cl
/-! ### where a line misses a cell, one of six ways lies beyond -/
def In1 (L U a b P Q : Int) : Prop := L * Q ≤ a * Q + b * P ∧ a * Q + b * P < U * Q
theorem lin_nn {a b P1 Q1 P2 Q2 P3 Q3 : Int} (q1 : 0 < Q1) (q2 : 0 < Q2) (q3 : 0 < Q3) (h12 : P1 * Q2 ≤ P2 * Q1) (h23 : P2 * Q3 ≤ P3 * Q2) (e1 : 0 ≤ a * Q1 + b * P1) (e3 : 0 ≤ a * Q3 + b * P3) : 0 ≤ a * Q2 + b * P2 := by
  refine Int.not_lt.mp fun z => ?_
  by_cases hb : 0 ≤ b
  · have k1 := Int.mul_nonneg e1 (Int.le_of_lt q2)
    have k2 := Int.mul_le_mul_of_nonneg_left h12 hb
    have k3 : (a * Q2 + b * P2) * Q1 = (a * Q1 + b * P1) * Q2 + (b * (P2 * Q1) - b * (P1 * Q2)) := by grind
    have k4 := Int.mul_neg_of_neg_of_pos z q1
    omega
  · have k1 := Int.mul_nonneg e3 (Int.le_of_lt q2)
    have k2 := Int.mul_le_mul_of_nonpos_left (show b ≤ 0 by omega) h23
    have k3 : (a * Q2 + b * P2) * Q3 = (a * Q3 + b * P3) * Q2 + (b * (P2 * Q3) - b * (P3 * Q2)) := by grind
    have k4 := Int.mul_neg_of_neg_of_pos z q3
    omega
theorem lin_pos {a b P1 Q1 P2 Q2 P3 Q3 : Int} (q1 : 0 < Q1) (q2 : 0 < Q2) (q3 : 0 < Q3) (h12 : P1 * Q2 ≤ P2 * Q1) (h23 : P2 * Q3 ≤ P3 * Q2) (e1 : 0 < a * Q1 + b * P1) (e3 : 0 < a * Q3 + b * P3) : 0 < a * Q2 + b * P2 := by
  refine Int.not_le.mp fun z => ?_
  by_cases hb : 0 ≤ b
  · have k1 := Int.mul_pos e1 q2
    have k2 := Int.mul_le_mul_of_nonneg_left h12 hb
    have k3 : (a * Q2 + b * P2) * Q1 = (a * Q1 + b * P1) * Q2 + (b * (P2 * Q1) - b * (P1 * Q2)) := by grind
    have k4 := Int.mul_nonneg (show 0 ≤ -(a * Q2 + b * P2) by omega) (Int.le_of_lt q1)
    rw [Int.neg_mul] at k4
    omega
  · have k1 := Int.mul_pos e3 q2
    have k2 := Int.mul_le_mul_of_nonpos_left (show b ≤ 0 by omega) h23
    have k3 : (a * Q2 + b * P2) * Q3 = (a * Q3 + b * P3) * Q2 + (b * (P2 * Q3) - b * (P3 * Q2)) := by grind
    have k4 := Int.mul_nonneg (show 0 ≤ -(a * Q2 + b * P2) by omega) (Int.le_of_lt q3)
    rw [Int.neg_mul] at k4
    omega
def Cvx (A : Int → Int → Prop) : Prop := ∀ P1 Q1 P2 Q2 P3 Q3, 0 < Q1 → 0 < Q2 → 0 < Q3 → P1 * Q2 ≤ P2 * Q1 → P2 * Q3 ≤ P3 * Q2 → A P1 Q1 → A P3 Q3 → A P2 Q2
theorem in1_cvx {L U a b : Int} : Cvx (In1 L U a b) := by
  intro P1 Q1 P2 Q2 P3 Q3 q1 q2 q3 h12 h23 ⟨e1, e2⟩ ⟨e3, e4⟩
  have k1 := lin_nn (a := a - L) (b := b) q1 q2 q3 h12 h23 (by rw [Int.sub_mul]; omega) (by rw [Int.sub_mul]; omega)
  have k2 := lin_pos (a := U - a) (b := -b) q1 q2 q3 h12 h23 (by rw [Int.sub_mul, Int.neg_mul]; omega) (by rw [Int.sub_mul, Int.neg_mul]; omega)
  rw [Int.sub_mul] at k1
  rw [Int.sub_mul, Int.neg_mul] at k2
  exact ⟨by omega, by omega⟩
theorem seg_cvx : Cvx fun P Q => 0 ≤ P ∧ P ≤ Q := by
  intro P1 Q1 P2 Q2 P3 Q3 q1 q2 q3 h12 h23 ⟨e1, e2⟩ ⟨e3, e4⟩
  have k1 := lin_nn (a := 0) (b := 1) q1 q2 q3 h12 h23 (by omega) (by omega)
  have k2 := lin_nn (a := 1) (b := -1) q1 q2 q3 h12 h23 (by omega) (by omega)
  exact ⟨by omega, by omega⟩
/-- three convex sets of shares, each two of them with one in common, have one in common -/
theorem helly {A B C : Int → Int → Prop} (cA : Cvx A) (cB : Cvx B) (cC : Cvx C) {P1 Q1 P2 Q2 P3 Q3 : Int} (q1 : 0 < Q1) (q2 : 0 < Q2) (q3 : 0 < Q3) (a1 : A P1 Q1) (b1 : B P1 Q1) (b2 : B P2 Q2) (c2 : C P2 Q2) (a3 : A P3 Q3) (c3 : C P3 Q3) :
    ∃ P Q, 0 < Q ∧ A P Q ∧ B P Q ∧ C P Q := by
  rcases Int.le_total (P1 * Q2) (P2 * Q1) with x | x
  · rcases Int.le_total (P2 * Q3) (P3 * Q2) with y | y
    · exact ⟨P2, Q2, q2, cA _ _ _ _ _ _ q1 q2 q3 x y a1 a3, b2, c2⟩
    · rcases Int.le_total (P1 * Q3) (P3 * Q1) with z | z
      · exact ⟨P3, Q3, q3, a3, cB _ _ _ _ _ _ q1 q3 q2 z y b1 b2, c3⟩
      · exact ⟨P1, Q1, q1, a1, b1, cC _ _ _ _ _ _ q3 q1 q2 z x c3 c2⟩
  · rcases Int.le_total (P1 * Q3) (P3 * Q1) with z | z
    · exact ⟨P1, Q1, q1, a1, b1, cC _ _ _ _ _ _ q2 q1 q3 x z c2 c3⟩
    · rcases Int.le_total (P2 * Q3) (P3 * Q2) with y | y
      · exact ⟨P3, Q3, q3, a3, cB _ _ _ _ _ _ q2 q3 q1 y z b2 b1, c3⟩
      · exact ⟨P2, Q2, q2, cA _ _ _ _ _ _ q3 q2 q1 y x a3 a1, b2, c2⟩
theorem in_seg {L U a b : Int} (hLU : L < U) (h1 : a < U ∨ a + b < U) (h2 : L ≤ a ∨ L ≤ a + b) : ∃ P Q, 0 < Q ∧ (0 ≤ P ∧ P ≤ Q) ∧ In1 L U a b P Q := by
  unfold In1
  by_cases c0 : L ≤ a ∧ a < U
  · exact ⟨0, 1, by omega, by omega, by omega, by omega⟩
  by_cases c1 : L ≤ a + b ∧ a + b < U
  · exact ⟨1, 1, by omega, by omega, by omega, by omega⟩
  by_cases c2 : a < L
  · have hb : 0 < b := by omega
    have e : a * b + b * (L - a) = L * b := by grind
    refine ⟨L - a, b, hb, ⟨by omega, by omega⟩, by rw [e]; exact Int.le_refl _, ?_⟩
    rw [e]
    exact Int.mul_lt_mul_of_pos_right hLU hb
  · have hb : 0 < -b := by omega
    have e : a * -b + b * (a - L) = L * -b := by grind
    refine ⟨a - L, -b, hb, ⟨by omega, by omega⟩, by rw [e]; exact Int.le_refl _, ?_⟩
    rw [e]
    exact Int.mul_lt_mul_of_pos_right hLU hb
/-- a straight line that goes to the right, rising -/
theorem both_up {L1 U1 L2 U2 a b c d : Int} (hb : 0 < b) (hd : 0 < d) (u1 : L1 < U1) (u2 : L2 < U2) (h1 : b * c + d * L1 < b * U2 + d * a) (h2 : d * a + b * L2 < d * U1 + b * c) : ∃ P Q, 0 < Q ∧ In1 L1 U1 a b P Q ∧ In1 L2 U2 c d P Q := by
  unfold In1
  by_cases k : b * L2 ≤ b * c + d * L1 - d * a
  · have e1 : a * b + b * (L1 - a) = L1 * b := by grind
    have e2 : c * b + d * (L1 - a) = b * c + d * L1 - d * a := by grind
    refine ⟨L1 - a, b, hb, ⟨by rw [e1]; exact Int.le_refl _, by rw [e1]; exact Int.mul_lt_mul_of_pos_right u1 hb⟩, by rw [e2, Int.mul_comm L2]; exact k, by rw [e2, Int.mul_comm U2]; omega⟩
  · have e1 : c * d + d * (L2 - c) = L2 * d := by grind
    have e2 : a * d + b * (L2 - c) = d * a + b * L2 - b * c := by grind
    refine ⟨L2 - c, d, hd, ⟨by rw [e2, Int.mul_comm L1]; omega, by rw [e2, Int.mul_comm U1]; omega⟩, by rw [e1]; exact Int.le_refl _, by rw [e1]; exact Int.mul_lt_mul_of_pos_right u2 hd⟩
/-- one that goes to the right, falling by e -/
theorem both_down {L1 U1 L2 U2 a b c e : Int} (hb : 0 < b) (he : 0 < e) (u1 : L1 < U1) (u2 : L2 < U2) (h3 : e * a + b * c < e * U1 + b * U2) (h4 : e * L1 + b * L2 ≤ e * a + b * c) : ∃ P Q, 0 < Q ∧ In1 L1 U1 a b P Q ∧ In1 L2 U2 c (-e) P Q := by
  unfold In1
  have m1 := Int.mul_lt_mul_of_pos_left u1 he
  have m2 := Int.mul_lt_mul_of_pos_left u2 hb
  by_cases k : b * c + e * a < b * U2 + e * L1
  · have e1 : a * b + b * (L1 - a) = L1 * b := by grind
    have e2 : c * b + -e * (L1 - a) = b * c - e * L1 + e * a := by grind
    refine ⟨L1 - a, b, hb, ⟨by rw [e1]; exact Int.le_refl _, by rw [e1]; exact Int.mul_lt_mul_of_pos_right u1 hb⟩, by rw [e2, Int.mul_comm L2]; omega, by rw [e2, Int.mul_comm U2]; omega⟩
  by_cases k2 : e * a + b * c < e * U1 + b * L2
  · have e1 : c * e + -e * (c - L2) = L2 * e := by grind
    have e2 : a * e + b * (c - L2) = e * a + b * c - b * L2 := by grind
    refine ⟨c - L2, e, he, ⟨by rw [e2, Int.mul_comm L1]; omega, by rw [e2, Int.mul_comm U1]; omega⟩, by rw [e1]; exact Int.le_refl _, by rw [e1]; exact Int.mul_lt_mul_of_pos_right u2 he⟩
  · have e1 : a * (2 * b * e) + b * ((c - U2) * b + (U1 - a) * e) = (e * a + b * c - b * U2 + e * U1) * b := by grind
    have e2 : c * (2 * b * e) + -e * ((c - U2) * b + (U1 - a) * e) = (b * c + b * U2 - e * U1 + e * a) * e := by grind
    have f1 : L1 * (2 * b * e) = (2 * (e * L1)) * b := by grind
    have f2 : U1 * (2 * b * e) = (2 * (e * U1)) * b := by grind
    have f3 : L2 * (2 * b * e) = (2 * (b * L2)) * e := by grind
    have f4 : U2 * (2 * b * e) = (2 * (b * U2)) * e := by grind
    refine ⟨(c - U2) * b + (U1 - a) * e, 2 * b * e, Int.mul_pos (by omega) he, ⟨?_, ?_⟩, ?_, ?_⟩
    · rw [e1, f1]
      exact Int.mul_le_mul_of_nonneg_right (by omega) (Int.le_of_lt hb)
    · rw [e1, f2]
      exact Int.mul_lt_mul_of_pos_right (by omega) hb
    · rw [e2, f3]
      exact Int.mul_le_mul_of_nonneg_right (by omega) (Int.le_of_lt he)
    · rw [e2, f4]
      exact Int.mul_lt_mul_of_pos_right (by omega) he
end Cl

namespace Cl
open PySem PySem.Spec PyProof.Rows L2
section
variable {X : Cx}
theorem bool_beq (a b : Bool) : (Value.bool a == Value.bool b) = decide (a = b) := by
  cases a <;> cases b <;> rfl
theorem op_isB : OpR X (compareOp .Is) (fun x y H Q => ∃ a b, x = .bl a ∧ y = .bl b ∧ Q (.bl (decide (a = b))) H) := by
  intro pins s σ H x y v u Q I rx ry h
  obtain ⟨a, b, rfl, rfl, q⟩ := h
  cases rx
  cases ry
  exact wpAny_is_plain rfl (fin_bl I q (bool_beq a b).symm)
theorem op_isNotB : OpR X (compareOp .IsNot) (fun x y H Q => ∃ a b, x = .bl a ∧ y = .bl b ∧ Q (.bl (!decide (a = b))) H) := by
  intro pins s σ H x y v u Q I rx ry h
  obtain ⟨a, b, rfl, rfl, q⟩ := h
  cases rx
  cases ry
  exact wpAny_isNot_plain rfl (fin_bl I q (congrArg not (bool_beq a b).symm))
end
end Cl

set_option maxHeartbeats 0
/-! sorted(list, key=lambda a: ..): any body, keys data -/
namespace Cl
open PySem PySem.Spec PyProof.Rows L2
/-- the heap without the object at a -/
def offH (h : Heap) (a : Addr) : Heap := h.update a fun o => { o with data := .freed }
theorem offH_ne {h : Heap} {a b : Addr} (n : b ≠ a) : (offH h a).get? b = h.get? b := Heap.get?_update_ne _ _ _ _ n
theorem offH_at {h : Heap} {a : Addr} : (offH h a).get? a = none := by
  unfold offH Heap.get? Heap.update
  simp only [Array.getElem?_modify, if_true]
  cases h.objs[a]? with
  | none => rfl
  | some o => rfl
section
variable {X : Cx} {pins : List (Addr × Obj)} {σ : L2.St} {H : Hp} {s : Shared}
theorem inv_adopt {a kS : Addr} {h' : Heap} {tk : Nat} {L : List V} {out : Array Value} {c : Nat} (I : Inv X pins σ H s) (fa : FpOk X pins H a) (fk : FpOk X pins H kS) (k : ∀ b o, b ≠ a → b ≠ kS → s.heap.get? b = some o → h'.get? b = some o)
    (ha : h'.get? a = some (seqObj "list" out c)) (hv : Vals L out.toList) (hl : L.length ≤ sizeLine) : Inv X pins σ (upd H a (.lst L)) { s with heap := h', toks := tk } := by
  obtain ⟨na, a1, a2, a3, a4, a5⟩ := fa
  obtain ⟨nk, k1, k2, k3, k4, k5⟩ := fk
  have nx : ∀ {b : Addr}, b ∉ [a, kS] → b ≠ a ∧ b ≠ kS := fun h => ⟨fun z => h (by simp [z]), fun z => h (by simp [z])⟩
  have neA : ∀ {b : Addr} {u : HO}, H b = some u → b ≠ a := fun e => ne_of_none e na
  have neK : ∀ {b : Addr} {u : HO}, H b = some u → b ≠ kS := fun e => ne_of_none e nk
  refine I.step (g' := s.gens) (d' := s.drawn) (ch := [a, kS]) (fun b hb => ?_) (fun b o _ _ hc e _ => k b o (nx hc).1 (nx hc).2 e) (fun b o _ _ hc e _ => ⟨o.slots, k b o (nx hc).1 (nx hc).2 e⟩)
    (fun b o hc e n => by rw [upd_ne (nx hc).1]; exact n) (fun b o hc e => ⟨o, k b o (nx hc).1 (nx hc).2 e⟩) (fun b xs e => by rw [upd_ne (neA e)]; exact e) (fun b o u e => by rw [upd_ne (neA e)]; exact e)
    (fun b ps e => ⟨#[], by rw [upd_ne (neA e), e]; simp⟩) (fun m hm => ?_) (fun b u e => ?_) I.bare
  · rcases List.mem_cons.mp hb with rfl | hb
    · exact ⟨a3, a1, a4, a5⟩
    · rw [List.mem_singleton.mp hb]
      exact ⟨k3, k1, k4, k5⟩
  · obtain ⟨o, es, ep, ho, r⟩ := hm
    exact ⟨o, es, ep, k _ o a1.symm k1.symm ho, r⟩
  · by_cases hb : b = a
    · rw [hb, upd_same] at e
      cases e
      rw [hb]
      exact ⟨hl, out.toList, c, hv, ha⟩
    · rw [upd_ne hb] at e
      refine (I.hok b u e).stay (fun d v hd q => k d v ?_ ?_ q) (fun d q => by rw [upd_ne (neA q)]; exact q) fun d xs q => by rw [upd_ne (neA q)]; exact q
      · rcases hd with z | z
        · rw [z]; exact hb
        · exact neA z
      · rcases hd with z | z
        · rw [z]; exact neK e
        · exact neK z
theorem dps_each {H : Hp} {s : Shared} (I : Inv X pins σ H s) : ∀ {ks : List V} {kz : List PyData} {us : List Value}, DpAll X.K H ks kz → Vals ks us → PySem.W.EachIs (fun v k => ∃ as, Reads s.heap v k as) us kz
  | _, _, _, .nil, .nil => .nil
  | _, _, _, .cons h t, .cons r rr => .cons (Dp.reads I _ _ _ h r) (dps_each I t rr)
theorem seqS {K : PySem.W.Frag} {H H' : Hp} {a : Addr} {xs : List V} (s : Same H H') (h : SqL K H a xs) : SqL K H' a xs := by
  rcases h with (h | ⟨o, h⟩) | h
  · exact .inl (.inl (s _ _ h))
  · exact .inl (.inr ⟨o, s _ _ h⟩)
  · exact .inr h
mutual
theorem dp_same {K : PySem.W.Frag} {H H' : Hp} (s : Same H H') : ∀ {d : PyData} {v : V}, Dp K H v d → Dp K H' v d
  | .none, _, h => by cases h; exact .non
  | .bool b, _, h => by cases h; exact .bl b
  | .int i, _, h => by cases h; exact .int i
  | .str x, _, h => by cases h; exact .str x
  | .list ds, _, h => by
    cases h with
    | lst h1 h2 => exact .lst (seqS s h1) (dps_same s h2)
  | .tuple ds, _, h => by
    cases h with
    | tup h1 h2 => exact .tup (seT s h1) (dps_same s h2)
  | .dict ds, _, h => by cases h
theorem dps_same {K : PySem.W.Frag} {H H' : Hp} (s : Same H H') : ∀ {ds : List PyData} {vs : List V}, DpAll K H vs ds → DpAll K H' vs ds
  | [], _, h => by cases h; exact .nil
  | d :: ds, _, h => by
    cases h with
    | cons h1 h2 => exact .cons (dp_same s h1) (dps_same s h2)
end
theorem dps_app {K : PySem.W.Frag} {H : Hp} : ∀ {vs ws : List V} {ds es : List PyData}, DpAll K H vs ds → DpAll K H ws es → DpAll K H (vs ++ ws) (ds ++ es)
  | _, _, _, _, .nil, h => h
  | _, _, _, _, .cons h t, h2 => .cons h (dps_app t h2)
theorem dps_len {K : PySem.W.Frag} {H : Hp} : ∀ {vs : List V} {ds : List PyData}, DpAll K H vs ds → vs.length = ds.length
  | _, _, .nil => rfl
  | _, _, .cons h t => by rw [List.length_cons, List.length_cons, dps_len t]
theorem keyI_rest {f : Value} {a kS : Addr} {e1 : Nat} {vs : List V} {us : List Value} {kz : List PyData} {A2 : Around} {P : PySem.Fin → Shared → Prop} {E : Value → Shared → Prop} (I : Inv X pins σ H s) (rv : Vals vs us)
    (fa : ∀ H', H' a = none → FpOk X pins H' a) (fk : ∀ H', H' kS = none → FpOk X pins H' kS) (na : H a = none) (nk : H kS = none) (hka : kS ≠ a)
    (gk : s.heap.get? kS = some (seqObj "list" #[] 0)) (ga : s.heap.get? a = some (seqObj "list" #[] e1))
    (hlen : kz.length = vs.length) (hZ : vs.length ≤ sizeLine) (hal : PySem.W.AllAlike kz) (hsk : PySem.W.Sortable kz) (hu : ∀ d, d ∈ kz → A2.units + d.depth < cLine)
    (turn : ∀ (i : Nat) (x : V) (u : Value) (k : PyData) (pins' : List (Addr × Obj)) (H1 : Hp) (s1 : Shared), vs[i]? = some x → kz[i]? = some k → RelV x u → Inv X pins' σ H1 s1 → Same H H1 →
      wpAny (model X.prog X.w) A2 (call f [u]) (EP X pins' σ (fun y H' => Dp X.K H' y k ∧ Same H1 H')) (fun _ _ => False) s1)
    (h : ∀ (H1 : Hp) (s1 : Shared) (h' : Heap) (tk : Nat) (out : List Value) (c : Nat), Inv X pins σ H1 s1 → Same H H1 → H1 a = none → H1 kS = none → (∀ b o, b ≠ a → b ≠ kS → s1.heap.get? b = some o → h'.get? b = some o) → h'.get? a = some (seqObj "list" out.toArray c) →
      PySem.W.KeyedOut false kz us out → P (.done (.ret .none)) { s1 with heap := h', toks := tk }) :
    wpAny (model X.prog X.w) A2 (ksk_rest a f false us.toArray e1 (.ref kS)) P E s := by
  have lu : us.length = vs.length := rv.length.symm
  unfold ksk_rest
  refine wpAny_bind (wpAny_rule ?_)
  first
    | rw [List.forIn_toArray]
    | (rw [← Array.forIn_toList]; simp only [List.toList_toArray])
    | rw [← Array.forIn_toList]
  have fine : ∀ {kA : Array Value} {e : Nat} {H' : Hp} {s' : Shared}, Inv X pins σ H' s' → H' kS = none → H' a = none → s'.heap.get? kS = some (seqObj "list" kA e) → s'.heap.get? a = some (seqObj "list" #[] e1) → Inv X (pins ++ [(kS, seqObj "list" kA e), (a, seqObj "list" #[] e1)]) σ H' s' := fun {kA e H' s'} J n1 n2 g1 g2 => J.pins_of fun p hp => by
    rcases List.mem_append.mp hp with hp | hp
    · exact J.pin p (List.mem_append_right _ hp)
    · rcases List.mem_cons.mp hp with rfl | hp
      · obtain ⟨_, q1, q2, _⟩ := fk H' n1
        exact ⟨g1, n1, q1, q2, fun v z => nomatch z⟩
      · rw [List.mem_singleton.mp hp]
        obtain ⟨_, q1, q2, _⟩ := fa H' n2
        exact ⟨g2, n2, q1, q2, fun v z => nomatch z⟩
  refine wpAny_bind (ksk_fold (fun i s' => ∃ (H' : Hp) (kA : Array Value) (e : Nat) (ks : List V), Inv X pins σ H' s' ∧ Same H H' ∧ H' a = none ∧ H' kS = none ∧ s'.heap.get? kS = some (seqObj "list" kA e) ∧ s'.heap.get? a = some (seqObj "list" #[] e1) ∧ Vals ks kA.toList ∧ DpAll X.K H' ks (kz.take i)) us 0 s
    ⟨H, #[], 0, [], I, .refl _, na, nk, gk, ga, .nil, by rw [List.take_zero]; exact .nil⟩ ?step ?done)
  case step =>
    rintro j u s' hx ⟨H', kA, e, ks, J, sm, na', nk', gk', ga', rk, dk⟩
    simp only [Nat.zero_add] at dk ⊢
    have hj : j < us.length := (List.getElem?_eq_some_iff.mp hx).1
    obtain ⟨k, hkj⟩ : ∃ k, kz[j]? = some k := ⟨_, List.getElem?_eq_getElem (by omega)⟩
    obtain ⟨x, hxj⟩ : ∃ x, vs[j]? = some x := ⟨_, List.getElem?_eq_getElem (by omega)⟩
    obtain ⟨u', eu, rel⟩ := rv.get hxj
    obtain rfl : u' = u := Option.some.inj (eu.symm.trans hx)
    have lk : kA.size ≤ vs.length := by
      have h1 := rk.length
      have h2 := dps_len dk
      rw [List.length_take] at h2
      rw [← Array.length_toList]
      omega
    refine wpAny_bind (wpAny_attempt (wpAny_mono (turn j x u' k _ H' s' hxj hkj rel (fine J nk' na' gk' ga') sm) (fun v s2 he => ?_) fun _ _ hF => hF.elim))
    obtain ⟨yv, H2, J2, ry, hd, sm2⟩ := he
    try dsimp only
    have pk := J2.pin (kS, seqObj "list" kA e) (List.mem_append_right _ (List.mem_append_right _ (.head _)))
    have pa := J2.pin (a, seqObj "list" #[] e1) (List.mem_append_right _ (List.mem_append_right _ (.tail _ (.head _))))
    have J3 : Inv X pins σ H2 s2 := J2.pins_of fun p hp => J2.pin p (List.mem_append_right _ (List.mem_append_left _ hp))
    obtain ⟨_, q1, q2, q3, q4, q5⟩ := fk H2 pk.2.1
    obtain ⟨c2, hc2⟩ : ∃ c2, (s2.heap.update kS (Obj.mapSeq (·.push v))).get? kS = some (seqObj "list" (kA.push v) c2) := ⟨_, get?_update_seq pk.1 (·.push v)⟩
    refine wpAny_bind (listUpdate_at pk.1 rfl ?_ (Nat.le_trans lk hZ) (Nat.le_trans (Nat.le_of_eq (Array.size_push ..)) (Nat.succ_le_succ (Nat.le_trans lk hZ))))
    have J4 := J3.turned (h' := s2.heap.update kS (Obj.mapSeq (·.push v))) (t' := s2.toks) (it := kS) (fun b o hb e => (Heap.get?_update_ne _ _ _ _ hb).trans e) pk.2.1 q1 q3 q4 q5
    refine wpAny_pure ⟨rfl, H2, kA.push v, c2, ks ++ [yv], J4, sm.trans sm2, pa.2.1, pk.2.1, hc2, (Heap.get?_update_ne _ _ _ _ hka.symm).trans pa.1, ?_, ?_⟩
    · rw [Array.toList_push]
      exact rk.append (.cons ry .nil)
    · rw [List.take_succ, hkj, Option.toList_some]
      exact dps_app (dps_same sm2 dk) (.cons hd .nil)
  case done =>
    rintro s' ⟨H', kA, e, ks, J, sm, na', nk', gk', ga', rk, dk⟩
    have e3 : kz.take (0 + us.length) = kz := List.take_of_length_le (by omega)
    rw [e3] at dk
    have hk' := dps_each J dk rk
    have hsz : kA.size = us.length := by
      have h1 := hk'.length
      rw [Array.length_toList] at h1
      omega
    try dsimp only
    refine wpAny_bind (listItems_at gk' rfl ?_)
    refine PySem.W.keyH_end (κ := PySem.W.dataKind s'.heap kz) (h₁ := offH s'.heap kS) (fun b o hb q => ?_) offH_at gk' ga' hka (PySem.W.SortsAt.data (s := s') hk' hal hsk hu) hsz (by rw [lu]; exact hZ) fun h3 tk3 c k3 n3 => ?_
    · by_cases hbk : b = kS
      · rw [hbk, offH_at] at q
        cases q
      · rw [offH_ne hbk] at q
        exact q
    · exact h H' s' h3 tk3 _ c J sm na' nk' (fun b o h1 h2 q => k3 b o h1 (by rw [offH_ne h2]; exact q)) n3 ⟨s'.heap, kA.toList, hal, rfl, hk'⟩
end
end Cl

set_option maxHeartbeats 0
namespace Cl
open PySem PySem.Spec PyProof.Rows L2
theorem seqX {K : PySem.W.Frag} {H H' : Hp} {P a : Addr} {q : Str} {xs : List V} (t : LT H P q) (s : SameX P H H') (h : SqL K H a xs) : SqL K H' a xs := by
  obtain ⟨cs, e, _⟩ := t
  have ne : ∀ u, H a = some u → (∀ φ, u ≠ .ext φ) → a ≠ P := fun u z n y => by
    rw [y, e] at z
    exact n _ (Option.some.inj z).symm
  rcases h with (h | ⟨o, h⟩) | h
  · exact .inl (.inl (s _ _ (ne _ h fun φ z => nomatch z) h))
  · exact .inl (.inr ⟨o, s _ _ (ne _ h fun φ z => nomatch z) h⟩)
  · exact .inr h
section
variable {X : Cx} {pins : List (Addr × Obj)} {σ : L2.St} {H : Hp} {s : Shared}
theorem vals_each : ∀ {bs : List (V × PyData)} {us : List Value}, Vals (bs.map (·.1)) us → PySem.W.EachIs (fun v (p : V × PyData) => RelV p.1 v) us bs
  | [], _, .nil => .nil
  | _ :: _, _, .cons r rr => .cons r (vals_each rr)
theorem each_vals : ∀ {bs : List (V × PyData)} {us : List Value}, PySem.W.EachIs (fun v (p : V × PyData) => RelV p.1 v) us bs → Vals (bs.map (·.1)) us
  | [], _, .nil => .nil
  | _ :: _, _, .cons r rr => .cons r (each_vals rr)
def keyLe (p q : V × PyData) : Prop := PySem.W.dataLe false (fun p : V × PyData => p.2) p q = true
theorem sorted_keyI {l f : Addr} {bs : List (V × PyData)} {Q : Value → Shared → Prop} {E : Value → Shared → Prop} (I : Inv X pins σ H s) (hl : SqL X.K H l (bs.map (·.1))) (hal : PySem.W.AllAlike (bs.map (·.2))) (hsk : PySem.W.Sortable (bs.map (·.2)))
    (hu : ∀ p ∈ bs, X.A.in1.in1.units + p.2.depth < cLine)
    (turn : ∀ (i : Nat) (x : V) (u : Value) (k : PyData) (pins' : List (Addr × Obj)) (H1 : Hp) (s1 : Shared), bs[i]? = some (x, k) → RelV x u → Inv X pins' σ H1 s1 → Same H H1 →
      wpAny (model X.prog X.w) X.A.in1.in1 (call (.ref f) [u]) (EP X pins' σ (fun y H' => Dp X.K H' y k ∧ Same H1 H')) (fun _ _ => False) s1)
    (hQ : ∀ (bs' : List (V × PyData)) (p : Addr) (H1 : Hp) (s1 : Shared), bs'.Perm bs → bs'.Pairwise keyLe → Inv X pins σ (upd H1 p (.lst (bs'.map (·.1)))) s1 → Same H H1 → H1 p = none → Q (.ref p) s1) :
    wpAny (model X.prog X.w) X.A (call (.builtin "sorted") [.ref l] [(Str.ofString "key", .ref f)]) Q E s := by
  obtain ⟨its, rv, hil, hz⟩ := I.list hl
  have ln : its.length = bs.length := by
    have := rv.length
    rw [List.length_map] at this
    omega
  have hZ : (bs.map (·.1)).length ≤ sizeLine := hz
  have hZ2 : its.length ≤ sizeLine := by rw [ln]; rw [List.length_map] at hZ; exact hZ
  refine PySem.W.sorted_of_sort hil.isList hZ2 (ksk_s1 _ _) (fun _ => ksk_l1 _ _) fun E' => ?_
  rw [ksk_t1]
  have ho := PySem.W.copyHeap_at s.heap its
  have hsz : (PySem.W.copyHeap s.heap its).objs.size = s.heap.objs.size + 2 := by
    unfold PySem.W.copyHeap
    rw [size_push', Heap.size_update, size_push']
  obtain ⟨a, ea⟩ : ∃ a, a = s.heap.objs.size + 1 := ⟨_, rfl⟩
  rw [← ea] at ho ⊢
  obtain ⟨e1, ho1⟩ : ∃ e1, ((PySem.W.copyHeap s.heap its).update a (Obj.mapSeq fun _ => (#[] : Array Value))).get? a = some (seqObj "list" #[] e1) := ⟨_, get?_update_seq ho fun _ => #[]⟩
  have hkS : (((PySem.W.copyHeap s.heap its).update a (Obj.mapSeq fun _ => (#[] : Array Value))).push (seqObj "tuple" its.toArray 0)).objs.size = s.heap.objs.size + 3 := by rw [size_push', Heap.size_update, hsz]
  unfold ksk_tree
  refine wpAny_bind (listItems_at ho rfl ?_)
  refine wpAny_bind (listUpdate_at ho rfl ?_ (by rw [List.size_toArray]; exact hZ2) (Nat.zero_le _))
  refine wpAny_bind (seqEpoch_at ho1 rfl ?_)
  refine wpAny_bind (wpAny_newTuple ?_ (by show its.length ≤ _; exact hZ2))
  refine wpAny_bind (wpAny_newList ?_ (Nat.zero_le _))
  refine wpAny_holding ?_
  have na : H a = none := I.hok.fresh (by rw [ea]; exact Nat.le_succ _)
  have nk : H (((PySem.W.copyHeap s.heap its).update a (Obj.mapSeq fun _ => (#[] : Array Value))).push (seqObj "tuple" its.toArray 0)).objs.size = none := I.hok.fresh (by rw [hkS]; omega)
  have fa : ∀ H', H' a = none → FpOk X pins H' a := fun H' n => I.fpOk (by rw [ea]; exact Nat.le_succ _) n
  have fk : ∀ H', H' (((PySem.W.copyHeap s.heap its).update a (Obj.mapSeq fun _ => (#[] : Array Value))).push (seqObj "tuple" its.toArray 0)).objs.size = none → FpOk X pins H' (((PySem.W.copyHeap s.heap its).update a (Obj.mapSeq fun _ => (#[] : Array Value))).push (seqObj "tuple" its.toArray 0)).objs.size := fun H' n => I.fpOk (by rw [hkS]; omega) n
  have old : ∀ b o, s.heap.get? b = some o → ((((PySem.W.copyHeap s.heap its).update a (Obj.mapSeq fun _ => (#[] : Array Value))).push (seqObj "tuple" its.toArray 0)).push (seqObj "list" #[] 0)).get? b = some o := fun b o e => by
    refine Heap.get?_push_of_some _ (Heap.get?_push_of_some _ ?_)
    rw [Heap.get?_update_ne _ _ _ _ (by rw [ea]; exact Nat.ne_of_lt (Nat.lt_succ_of_lt (Heap.lt_size e)))]
    exact PySem.W.copyHeap_old e
  refine keyI_rest (kz := bs.map (·.2)) (I := I.kept (t' := s.toks) old) rv fa fk na nk (fun z => by have z2 : (((PySem.W.copyHeap s.heap its).update a (Obj.mapSeq fun _ => (#[] : Array Value))).push (seqObj "tuple" its.toArray 0)).objs.size = a := z; rw [hkS] at z2; omega) (Heap.get?_push_size _ rfl) (Heap.get?_push_of_some _ (Heap.get?_push_of_some _ ho1)) (by rw [List.length_map, List.length_map]) hZ hal hsk (fun d hd => ?_)
    (fun i x u k pins' H1 s1 hx hk rel J sm => ?_) fun H1 s1 h' tk out c J sm n1 n2 kp ga ko => ⟨rfl, ?_⟩
  · obtain ⟨p, hp, rfl⟩ := List.mem_map.mp hd
    exact hu p hp
  · rw [List.getElem?_map] at hx hk
    cases e : bs[i]? with
    | none => rw [e] at hx; cases hx
    | some p =>
      rw [e] at hx hk
      cases hx
      cases hk
      exact turn i p.1 u p.2 pins' H1 s1 e rel J sm
  · have eo := PySem.W.keyedOut_each (fun p : V × PyData => p.2) ko (vals_each rv)
    have pm : (bs.mergeSort (PySem.W.dataLe false fun p : V × PyData => p.2)).Perm bs := List.mergeSort_perm _ _
    have tot : PySem.W.TotalLe (PySem.W.dataLe false fun p : V × PyData => p.2) := PySem.W.sortLe_total ..
    have pw : (bs.mergeSort (PySem.W.dataLe false fun p : V × PyData => p.2)).Pairwise keyLe := List.pairwise_mergeSort tot.trans (fun x y => by rw [Bool.or_eq_true]; exact tot.total x y) bs
    refine hQ _ a H1 _ pm pw (inv_adopt (out := out.toArray) J (fa H1 n1) (fk H1 n2) kp ga (each_vals eo) ?_) sm n1
    rw [List.length_map, pm.length_eq]
    rw [List.length_map] at hZ
    exact hZ
/-- a lambda called two built-ins down -/
theorem call_key2 {k : Nat} {params : Arguments} {body : Expr} {scope : Scope} {a : Str} {f c' : Addr} {v : V} {u : Value} {t : TE} {Q : VK} (I : Inv X pins σ H s) (L : LamK X.env.scope scope a) (ha : a ∉ X.N) (hf : H f = some (LamO X params body scope c' f)) (hc : H c' = some (LamX.CodeO c' (X.env.qual ++ "<lambda>")))
    (hbind : ∀ (q : Str) (cl : List (Str × Addr)) (pm cv ctv u : Value), bindArgs (PySem.W.kla_fn "<lambda>" q params body scope cl pm cv ctv) ⟨[u], []⟩ = pure [(a, u)])
    (hr : RG (k + 3) X.A) (hbody : ∀ (A : Around) (outer : List Env) (s : Shared) (H : Hp), RG k (A.deeper (LamX.lamEnv X scope s.heap.objs.size f c')) → PE (lamCx1 X a A outer s H scope f c') body t)
    (r : RelV v u) (ht : t (some v :: σ) H Q) :
    wpAny (model X.prog X.w) X.A.in1.in1 (call (.ref f) [u]) (EP X pins σ Q) (fun _ _ => False) s := by
  obtain ⟨⟨pm, ctv, of1⟩, _, _⟩ := I.hok f _ hf
  obtain ⟨⟨oc, vs, tt, hoc, hdc, hvc⟩, _, _⟩ := I.hok c' _ hc
  have hr1 : RG (k + 1) X.A.in1.in1 := ⟨hr.room.in1.in1, hr.gd⟩
  have e0 : Env0 X.prog X.w X.K X.mg X.base X.A.in1.in1 X.stack s H := ⟨I.ok.frames, I.ok.mod, I.bs, Nat.le_trans I.ok.bsz I.sz, I.stack, I.stkFree, I.hok, I.bare⟩
  have rc : codeAny (model X.prog X.w) X.A.in1.in1 (.call (.ref f) ⟨[u], []⟩) (CR CX0 X.stack X.prog X.w H s Q E0) s := by
    refine PySem.W.kla_callFunE hr1.room.depth of1 rfl L.co L.gen rfl ⟨c', oc, vs, tt, rfl, hoc, hdc, hvc⟩ ?_
    rw [hbind]
    refine wpAny_pure (wpAny_newFunctionEnv (fun y hy => L.nocell y hy) (fun y hy => by rw [List.mem_singleton.mp hy]; exact L.par) (fun h₁ hns hsb => ⟨I.nolimit.fresh _ hsb, ?_⟩) L.kind)
    show codeAny _ _ (.expr body (LamX.lamEnv X scope s.heap.objs.size f c')) _ _
    have kp : ∀ b o, s.heap.get? b = some o → h₁.get? b = some o := fun b o e => hsb.extBut b o (Nat.ne_of_lt (Heap.lt_size e)) (Heap.get?_push_of_some _ e)
    have J := lam_start1 (f := f) (c' := c') (tk := s.toks + 1) I L e0 hr1.room.hd ha r hns kp
    have hr2 : RG k (X.A.in1.in1.deeper (LamX.lamEnv X scope s.heap.objs.size f c')) := ⟨hr1.room.deeper _, hr1.gd⟩
    refine PySem.W.kla_codeExpr (wpAny_mono ((hbody X.A.in1.in1 X.stack s H hr2).run [] _ _ H Q J ht) (fun v s' hq => ?_) fun e s' hq => (show False from hq).elim)
    obtain ⟨w', H', J', rv, q⟩ := hq
    exact ⟨w', H', J'.os, J'.bare, J'.base, J'.hok, rv, q⟩
  refine wpAny_call (codeAny_mono rc fun r s' hq => ?_)
  cases r with
  | error e => exact hq.elim
  | ok fl =>
    cases fl with
    | ret u => exact I.after hq
    | next => exact False.elim hq
    | brk => exact False.elim hq
    | cont => exact False.elim hq
/-- what sorted by key asks behind its argument v -/
def sortQ (X : Cx) (P : Addr) (t : TE) (σ : L2.St) (Q : VK) (v : V) (H1 : Hp) : Prop := ∃ (l : Addr) (bs : List (V × PyData)), v = .ref l ∧ SqL X.K H1 l (bs.map (·.1)) ∧ PySem.W.AllAlike (bs.map (·.2)) ∧ PySem.W.Sortable (bs.map (·.2)) ∧ (∀ p ∈ bs, p.2.depth ≤ 60) ∧ LT H1 P (X.env.qual ++ "<lambda>") ∧
  (∀ (i : Nat) (x : V) (k : PyData) (H2 : Hp), bs[i]? = some (x, k) → SameX P H1 H2 → LT H2 P (X.env.qual ++ "<lambda>") → t (some x :: σ) H2 (fun y H3 => Dp X.K H3 y k ∧ Same H2 H3)) ∧
  ∀ (bs' : List (V × PyData)) p H2 H3, bs'.Perm bs → bs'.Pairwise keyLe → SameX P H1 H2 → LT H2 P (X.env.qual ++ "<lambda>") → H2 p = none → Same H2 H3 → H3 p = some (.lst (bs'.map (·.1))) → Q (.ref p) H3
def sortQs (X : Cx) (P : Addr) (t : TE) (σ : L2.St) (Q : VK) : List V → Hp → Prop
  | [v], H1 => sortQ X P t σ Q v H1
  | _, _ => False
def tSortKey (X : Cx) (P : Addr) (t te : TE) : TE := fun σ H Q => te σ H (sortQ X P t σ Q)
theorem pe_sortKey {k : Nat} {c P : Addr} {e : Expr} {params : Arguments} {body : Expr} {scope : Scope} {a : Str} {p pos lp kp : Pos} {t te : TE} (hr : RG (k + 3) X.A) (hg : Gl X "sorted") (hm : X.mg "sorted" = none) (TB : GxR.TabB X.base X.mg c P) (hcode : X.env.code = .ref c)
    (L : LamK X.env.scope scope a) (ha : a ∉ X.N) (hdef : defaultsOf params X.env = ([], []))
    (hbind : ∀ (q : Str) (cl : List (Str × Addr)) (pm cv ctv u : Value), bindArgs (PySem.W.kla_fn "<lambda>" q params body scope cl pm cv ctv) ⟨[u], []⟩ = pure [(a, u)])
    (he : PE X e te) (hbody : ∀ (A : Around) (outer : List Env) (s : Shared) (H : Hp) (f c' : Addr), RG k (A.deeper (LamX.lamEnv X scope s.heap.objs.size f c')) → PE (lamCx1 X a A outer s H scope f c') body t)
    (hs1 : starEach [e] X.env = (false, eval e X.env) :: starEach [] X.env := by rfl) :
    PE X (.Call (.Name "sorted" p) [e] [⟨some "key", .Lambda params body scope lp, kp⟩] pos) (tSortKey X P t te) := by
  refine ⟨fun pins s σ H Q I h => ?_⟩
  refine wpAny_Call_Name_kw (ld_blt I hg hm PyProof.Rows.boot_sorted ?_ (by decide) (by decide))
  have hargs : PA X [e] _ := pa_cons he pa_nil (hs := hs1)
  have hk : PK X [⟨some "key", .Lambda params body scope lp, kp⟩] _ := pk_cons (pe_lamK (P := P) TB hcode L hdef) pk_nil
  refine PyProof.Rows.callWith_kw (thn (hargs.run pos pins s σ H (sortQs X P t σ Q) I h) fun us s1 ⟨vs0, H1, I1, r1, q1⟩ => ?_) (by rw [hs1]; rfl) (by rw [hs1]; rfl) (by rfl) (by rfl)
  obtain ⟨v, rfl⟩ : ∃ v, vs0 = [v] := by
    match vs0, q1 with
    | [v], _ => exact ⟨v, rfl⟩
    | [], q => exact False.elim q
    | _ :: _ :: _, q => exact False.elim q
  obtain ⟨l, bs, rfl, hS, hal, hsk, hdp, lt1, ht, hq⟩ := q1
  obtain ⟨u, rfl, ru⟩ := vals1 r1
  cases ru
  refine thn (hk.run pos pins s1 σ H1 (fun ws H2 => ∃ f c', ws = [.ref f] ∧ SameX P H1 H2 ∧ LT H2 P (X.env.qual ++ "<lambda>") ∧ H2 f = some (LamO X params body scope c' f) ∧ H2 c' = some (LamX.CodeO c' (X.env.qual ++ "<lambda>"))) I1 ?_) fun ws s2 ⟨zs, H2, I2, r2, q2⟩ => ?_
  · exact ⟨lt1, fun f c' H2 sx lt hf hc => ⟨f, c', rfl, sx, lt, hf, hc⟩⟩
  obtain ⟨f, c', rfl, sx, lt2, hf, hc⟩ := q2
  obtain ⟨u, rfl, ru⟩ := vals1 r2
  cases ru
  have hS2 : SqL X.K H2 l (bs.map (·.1)) := seqX lt1 sx hS
  show wpAny _ _ (call (.builtin "sorted") [.ref l] [(Str.ofString "key", .ref f)]) _ _ s2
  refine sorted_keyI I2 hS2 hal hsk (fun p hp => ?_) (fun i x u k' pins' H3 s3 hx rel I3 sm => ?_) fun bs' p H3 s3 pm pw I3 sm n3 => ?_
  · have h1 := hr.room.un
    have h2 := hdp p hp
    show X.A.units + 1 + 1 + p.2.depth < cLine
    omega
  · exact call_key2 (k := k) I3 L ha (sm _ _ hf) (sm _ _ hc) hbind hr (fun A outer s H hr' => hbody A outer s H f c' hr') rel (ht i x k' H3 hx (sx.trans sm.x) (sm.lt lt2))
  · exact ⟨.ref p, _, I3, rfl, hq bs' p H3 _ pm pw (sx.trans sm.x) (sm.lt lt2) n3 (same_new n3) upd_same⟩
end
end Cl

set_option maxHeartbeats 0
namespace Cl
open PySem PySem.Spec PyProof.Rows L2
/-! ### data with dicts of one key at most -/
mutual
inductive Dq (K : PySem.W.Frag) (H : Hp) : V → PyData → Prop
  | non : Dq K H .non .none
  | bl (b : Bool) : Dq K H (.bl b) (.bool b)
  | int (i : Int) : Dq K H (.int i) (.int i)
  | str (x : Str) : Dq K H (.str x) (.str x)
  | lst {a : Addr} {xs : List V} {ds : List PyData} : a ≠ sysModules → H a = some (.lst xs) → DqAll K H xs ds → Dq K H (.ref a) (.list ds)
  | tup {a : Addr} {xs : List V} {ds : List PyData} : SqT K H a xs → DqAll K H xs ds → Dq K H (.ref a) (.tuple ds)
  | emp {a : Addr} : H a = some (.dK []) → Dq K H (.ref a) (.dict [])
  | one {a : Addr} {i : Int} {v : V} {d : PyData} : H a = some (.dK [(.inl i, v)]) → Dq K H v d → Dq K H (.ref a) (.dict [(.int i, d)])
inductive DqAll (K : PySem.W.Frag) (H : Hp) : List V → List PyData → Prop
  | nil : DqAll K H [] []
  | cons {v : V} {vs : List V} {d : PyData} {ds : List PyData} : Dq K H v d → DqAll K H vs ds → DqAll K H (v :: vs) (d :: ds)
end
section
variable {K : PySem.W.Frag} {H H' : Hp}
mutual
/-- what keeps lists, tuples and dicts keeps data -/
theorem Dq.keep (kl : ∀ a xs, H a = some (.lst xs) → H' a = some (.lst xs)) (kt : ∀ a xs, SqT K H a xs → SqT K H' a xs) (kd : ∀ a kvs, H a = some (.dK kvs) → H' a = some (.dK kvs)) : ∀ (d : PyData) (v : V), Dq K H v d → Dq K H' v d
  | .none, _, h => by cases h; exact .non
  | .bool b, _, h => by cases h; exact .bl b
  | .int i, _, h => by cases h; exact .int i
  | .str x, _, h => by cases h; exact .str x
  | .list ds, _, h => by
    cases h with
    | lst h0 h1 h2 => exact .lst h0 (kl _ _ h1) (DqAll.keep kl kt kd ds _ h2)
  | .tuple ds, _, h => by
    cases h with
    | tup h1 h2 => exact .tup (kt _ _ h1) (DqAll.keep kl kt kd ds _ h2)
  | .dict [], _, h => by
    cases h with
    | emp h1 => exact .emp (kd _ _ h1)
  | .dict [(.int i, d)], _, h => by
    cases h with
    | one h1 h2 => exact .one (kd _ _ h1) (Dq.keep kl kt kd d _ h2)
  | .dict ((.none, d) :: r), _, h => by cases h
  | .dict ((.bool _, d) :: r), _, h => by cases h
  | .dict ((.str _, d) :: r), _, h => by cases h
  | .dict ((.list _, d) :: r), _, h => by cases h
  | .dict ((.tuple _, d) :: r), _, h => by cases h
  | .dict ((.dict _, d) :: r), _, h => by cases h
  | .dict ((.int _, d) :: _ :: _), _, h => by cases h
theorem DqAll.keep (kl : ∀ a xs, H a = some (.lst xs) → H' a = some (.lst xs)) (kt : ∀ a xs, SqT K H a xs → SqT K H' a xs) (kd : ∀ a kvs, H a = some (.dK kvs) → H' a = some (.dK kvs)) : ∀ (ds : List PyData) (vs : List V), DqAll K H vs ds → DqAll K H' vs ds
  | [], _, h => by cases h; exact .nil
  | d :: ds, _, h => by
    cases h with
    | cons h1 h2 => exact .cons (Dq.keep kl kt kd d _ h1) (DqAll.keep kl kt kd ds _ h2)
end
theorem Dq.same {v : V} {d : PyData} (h : Dq K H v d) (s : Same H H') : Dq K H' v d := h.keep (fun a xs e => s _ _ e) (fun a xs e => seT s e) (fun a kvs e => s _ _ e)
theorem DqAll.same {vs : List V} {ds : List PyData} (h : DqAll K H vs ds) (s : Same H H') : DqAll K H' vs ds := DqAll.keep (fun a xs e => s _ _ e) (fun a xs e => seT s e) (fun a kvs e => s _ _ e) _ _ h
theorem Dq.sameX {P : Addr} {q : Str} {v : V} {d : PyData} (h : Dq K H v d) (t : LT H P q) (s : SameX P H H') : Dq K H' v d := by
  have ne : ∀ a u, H a = some u → (∀ φ, u ≠ .ext φ) → a ≠ P := fun a u z n y => by
    obtain ⟨cs, e, _⟩ := t
    rw [y, e] at z
    exact n _ (Option.some.inj z).symm
  exact h.keep (fun a xs e => s _ _ (ne _ _ e fun φ z => nomatch z) e) (fun a xs e => seX t s e) (fun a kvs e => s _ _ (ne _ _ e fun φ z => nomatch z) e)
theorem Dq.step {d0 l : Addr} {v : V} {d : PyData} (h : Dq K H v d) (S : Step d0 l H H') (D : Deck H d0 l) (hl : ∀ a xs, H a = some (.lst xs) → a ≠ d0 ∧ a ≠ l → H' a = some (.lst xs)) : True := trivial
end
section
variable {X : Cx} {pins : List (Addr × Obj)} {σ : L2.St} {H : Hp} {s : Shared}
mutual
theorem Dq.reads (I : Inv X pins σ H s) : ∀ (d : PyData) (v : V) (u : Value), Dq X.K H v d → RelV v u → ∃ as, Reads s.heap u d as ∧ sysModules ∉ as
  | .none, _, _, h, r => by
    cases h
    cases r
    exact ⟨_, Reads.none, by simp⟩
  | .bool b, _, _, h, r => by
    cases h
    cases r
    exact ⟨_, Reads.bool b, by simp⟩
  | .int i, _, _, h, r => by
    cases h
    obtain ⟨t, rfl⟩ := r
    exact ⟨_, Reads.int i t, by simp⟩
  | .str x, _, _, h, r => by
    cases h
    obtain ⟨t, rfl⟩ := r
    exact ⟨_, Reads.str x t, by simp⟩
  | .list ds, _, _, h, r => by
    cases h with
    | lst h0 hs ha =>
      cases r
      obtain ⟨its, rv, ⟨o, n, ho, hc, _, hd⟩, _⟩ := I.list (.inl (.inl hs))
      obtain ⟨as, hr, hn⟩ := Dq.readsAll I ds _ its ha rv
      refine ⟨_, Reads.list ho hc hd hr, fun z => ?_⟩
      rcases List.mem_cons.mp z with z | z
      · exact h0 z.symm
      · exact hn z
  | .tuple ds, _, _, h, r => by
    cases h with
    | tup hs ha =>
      cases r
      obtain ⟨its, rv, ⟨o, ho, hc, n, hd⟩, _⟩ := I.tuple hs
      obtain ⟨as, hr, hn⟩ := Dq.readsAll I ds _ its ha rv
      exact ⟨_, Reads.tuple ho hc hd hr, hn⟩
  | .dict [], _, _, h, r => by
    cases h with
    | emp e =>
      cases r
      obtain ⟨_, hsm, vs, rel, o, es, ep, h1, h2, h3, h4, h5, h6⟩ := dk_of I.hok e
      cases rel
      cases h5' : es.toList with
      | nil =>
        refine ⟨_, Reads.dict (as := []) (bs := []) h1 h2.1 h3 (by rw [h5']; exact .nil) (by rw [h5']; exact .nil), fun z => ?_⟩
        rcases List.mem_cons.mp z with z | z
        · rw [← z] at hsm
          simp at hsm
        · simp at z
      | cons _ _ => rw [h5'] at h5; cases h5
  | .dict [(.int i, d)], _, _, h, r => by
    cases h with
    | one e hd =>
      cases r
      obtain ⟨_, hsm, vs, rel, o, es, ep, h1, h2, h3, h4, h5, h6⟩ := dk_of I.hok e
      cases rel with
      | cons hk rest =>
        cases rest
        rename_i q
        obtain ⟨hk1, hk2⟩ := hk
        cases h5' : es.toList with
        | nil => rw [h5'] at h5; cases h5
        | cons e0 r0 =>
          rw [h5'] at h5
          cases h5 with
          | cons c1 c2 c3 =>
            cases c3
            obtain ⟨as, hr, hn⟩ := Dq.reads I d _ _ hd hk2
            have c1 : keyIs q.1 e0.key = true := c1
            rw [← hk1] at c1
            rcases keyIs_shape c1 with ⟨j, t, z1, z2⟩ | ⟨x, t, z1, z2⟩
            · have z1 : (Sum.inl i : Key) = Sum.inl j := z1
              cases z1
              refine ⟨_, Reads.dict (as := [] ++ []) (bs := as ++ []) h1 h2.1 h3 (by rw [h5']; show ReadsAll _ [e0.key] [.int i] _; rw [z2]; exact .cons (.int _ _) .nil) (by rw [h5']; show ReadsAll _ [e0.val] [d] _; rw [c2]; exact .cons hr .nil), fun z => ?_⟩
              rcases List.mem_cons.mp z with z | z
              · rw [← z] at hsm
                simp at hsm
              · simp at z
                exact hn z
            · cases z1
  | .dict ((.none, d) :: r), _, _, h, _ => by cases h
  | .dict ((.bool _, d) :: r), _, _, h, _ => by cases h
  | .dict ((.str _, d) :: r), _, _, h, _ => by cases h
  | .dict ((.list _, d) :: r), _, _, h, _ => by cases h
  | .dict ((.tuple _, d) :: r), _, _, h, _ => by cases h
  | .dict ((.dict _, d) :: r), _, _, h, _ => by cases h
  | .dict ((.int _, d) :: _ :: _), _, _, h, _ => by cases h
theorem Dq.readsAll (I : Inv X pins σ H s) : ∀ (ds : List PyData) (vs : List V) (us : List Value), DqAll X.K H vs ds → Vals vs us → ∃ as, ReadsAll s.heap us ds as ∧ sysModules ∉ as
  | [], _, _, h, r => by
    cases h
    cases r
    exact ⟨_, ReadsAll.nil, by simp⟩
  | d :: ds, _, _, h, r => by
    cases h with
    | cons h1 h2 =>
      cases r with
      | cons r1 r2 =>
        obtain ⟨as, q1, n1⟩ := Dq.reads I d _ _ h1 r1
        obtain ⟨bs, q2, n2⟩ := Dq.readsAll I ds _ _ h2 r2
        exact ⟨_, ReadsAll.cons q1 q2, fun z => (List.mem_append.mp z).elim n1 n2⟩
end
end
end Cl

set_option maxHeartbeats 0
namespace Cl
open PySem PySem.Spec PyProof.Rows L2
open PySem.SeqAt
theorem sub_str_dict : isSubtype (.type "str") (.type "dict") = pure false := by rw [isSubtype_type]; kernel_rfl
theorem dict_eq_declines_str (l : Addr) (es : Array DictEntry) (n : Nat) (b : Str) (u : Tok) :
    PySem.Meets (Builtin.«dict.__eq__» ⟨[.ref l, .str b u], []⟩) (fun _ R s => s.heap.get? l = some { cls := .type "dict", dict := none, data := .dict es n, slots := #[] } ∧ R (.ok (.ret .notImplemented)) s) :=
  .of_wp fun prog w A R s h => by
    obtain ⟨hp, g, d, tk, os⟩ := s
    obtain ⟨hl, h⟩ := h
    have f1 := sub_str_dict
    wp_walk using wpAny_loadPart' hl, wpAny_load hl
    exact ⟨_, rfl, h⟩
theorem str_eq_declines_dict (b : Str) (u : Tok) (l : Addr) (es : Array DictEntry) (n : Nat) :
    PySem.Meets (Builtin.«str.__eq__» ⟨[.str b u, .ref l], []⟩) (fun _ R s => s.heap.get? l = some { cls := .type "dict", dict := none, data := .dict es n, slots := #[] } ∧ R (.ok (.ret .notImplemented)) s) :=
  .of_wp fun prog w A R s h => by
    obtain ⟨hp, g, d, tk, os⟩ := s
    obtain ⟨hl, h⟩ := h
    wp_walk using wpAny_loadPart' hl, wpAny_load hl
    exact ⟨_, rfl, h⟩
theorem rc_dict_str {A : Around} {s : Shared} {l : Addr} {es : Array DictEntry} {n : Nat} (b : Str) (u : Tok) (ho : s.heap.get? l = some { cls := .type "dict", dict := none, data := .dict es n, slots := #[] }) (hu : A.units < cLine) : SeqAt.RcAt A s (.ref l) (.str b u) false := fun prog w E Q h =>
  SeqAt.rc_eq_decline_or (k := false) ⟨_, ho, rfl⟩ (typeIs_str s b u) (by decide) sub_str_dict F.slot_dict_eq F.slot_str_eq_refl
    (fun _ hq => call_meets F.slot_dict_eq ⟨_, ho, rfl⟩ F.entry_dict_eq (F.args_dict_eq_2 _ _) (dict_eq_declines_str l es n b u) ⟨ho, hq⟩)
    (fun _ hq => call_meets F.slot_str_eq_refl (typeIs_str s b u) F.entry_str_eq (F.args_str_eq_2 _ _) (str_eq_declines_dict b u l es n) ⟨ho, hq⟩)
    (fun _ hq => wpAny_of_eq (rfl : isSame (.ref l) (.str b u) = pure false) hq) (.inr hu) h
theorem eq_dict_str {A : Around} {s : Shared} {l : Addr} {es : Array DictEntry} {n : Nat} (b : Str) (u : Tok) (ho : s.heap.get? l = some { cls := .type "dict", dict := none, data := .dict es n, slots := #[] }) (hu : A.units < cLine) : SeqAt.EqAt A s (.ref l) (.str b u) false := fun prog w E Q h => by
  unfold eqBool
  refine wpAny_holding ?_
  refine wpAny_ite_split (fun hab => absurd (eq_of_beq hab) nofun) (fun _ => ?_)
  exact wpAny_bind (rc_dict_str b u ho hu prog w E _ (wpAny_truthy_bool h))
/-- the first of a datum's parts is the word -/
def firstIs (w : Str) : List PyData → Bool
  | [.str s] => s == w
  | _ => false
section
variable {X : Cx}
/-- what is compared with a text -/
theorem dq_eq_str {pins : List (Addr × Obj)} {σ : L2.St} {H : Hp} {s : Shared} {A : Around} {v : V} {d : PyData} {u : Value} {x : Str} {t : Tok} (I : Inv X pins σ H s) (h : Dq X.K H v d) (r : RelV v u) (hu : A.units < cLine) :
    SeqAt.EqAt A s u (.str x t) (firstIs x [d]) := by
  cases h with
  | non => cases r; exact SeqAt.EqAt.none_str x t
  | bl b => cases r; exact SeqAt.EqAt.bool_str b x t
  | int i => obtain ⟨t', rfl⟩ := r; exact SeqAt.EqAt.int_str i t' x t
  | str y => obtain ⟨t', rfl⟩ := r; exact SeqAt.EqAt.str_str y t' x t
  | lst h0 h1 h2 =>
    cases r
    obtain ⟨its, rv, pl, _⟩ := I.list (.inl (.inl h1))
    exact SeqAt.EqAt.list_str x t pl.isList hu
  | tup h1 h2 =>
    cases r
    obtain ⟨its, rv, tp, _⟩ := I.tuple h1
    exact SeqAt.EqAt.tuple_str x t tp hu
  | emp e =>
    cases r
    obtain ⟨_, _, vs, _, ⟨cls, dd, data, sl⟩, es, ep, h1, ⟨c1, c2, c3⟩, h3, _⟩ := dk_of I.hok e
    simp only at c1 c2 c3 h3
    subst c1 c2 c3 h3
    exact eq_dict_str x t h1 hu
  | one e _ =>
    cases r
    obtain ⟨_, _, vs, _, ⟨cls, dd, data, sl⟩, es, ep, h1, ⟨c1, c2, c3⟩, h3, _⟩ := dk_of I.hok e
    simp only at c1 c2 c3 h3
    subst c1 c2 c3 h3
    exact eq_dict_str x t h1 hu
/-- thing[:1] == (word,) -/
def rEqFirst (K : PySem.W.Frag) : R2 := fun x y H Q => ∃ (a b : Addr) (xs : List V) (ds : List PyData) (w : Str), x = .ref a ∧ y = .ref b ∧ SqT K H a xs ∧ DqAll K H xs ds ∧ xs.length ≤ 1 ∧ SqT K H b [.str w] ∧ Q (.bl (firstIs w ds)) H
theorem op_eqFirst (hu : X.A.units + 64 < cLine) : OpR X (compareOp .Eq) (rEqFirst X.K) := by
  intro pins s σ H x y v u Q I rx ry h
  obtain ⟨a, b, xs, ds, w, rfl, rfl, ha, hd, hl, hb, q⟩ := h
  cases rx
  cases ry
  obtain ⟨its, rv, ta, _⟩ := I.tuple ha
  obtain ⟨itb, rb, tb, _⟩ := I.tuple hb
  cases rb with
  | cons r1 r2 =>
    cases r2
    obtain ⟨t, rfl⟩ := r1
    cases hd with
    | nil =>
      cases rv
      refine SeqAt.eq_tupleAt (e := fun _ => true) ta tb (by omega) (fun j h1 h2 => absurd h1 (by simp)) ⟨.bl _, H, I, rfl, ?_⟩
      exact q
    | @cons v0 vs d0 ds0 hd0 hds =>
      cases hds with
      | cons _ _ => simp at hl
      | nil =>
        cases rv with
        | cons r1 r2 =>
          cases r2
          rename_i u0
          have key := dq_eq_str (A := X.A.in1) (x := w) (t := t) I hd0 r1 (by show X.A.units + 1 < _; omega)
          refine SeqAt.eq_tupleAt (e := fun _ => firstIs w [d0]) ta tb (by omega) (fun j h1 h2 => ?_) ⟨.bl _, H, I, rfl, ?_⟩
          · have hj : j = 0 := by simp at h1; omega
            subst hj
            exact key
          · have e : ((List.range (min #[u0].size #[Value.str w t].size)).all (fun _ => firstIs w [d0]) && #[u0].size == #[Value.str w t].size) = firstIs w [d0] := by
              show ((List.range 1).all (fun _ => firstIs w [d0]) && true) = _
              simp [List.range, List.range.loop]
            rw [e]
            exact q
/-- repr of such data -/
def rReprQ (K : PySem.W.Frag) : List V → Hp → VK → Prop := fun xs H Q => ∃ v d, xs = [v] ∧ Dq K H v d ∧ d.showable = true ∧ d.depth ≤ 60 ∧ d.shown.length ≤ sizeLine ∧ Q (.str d.shown) H
theorem call_reprQ (hg : X.A.guards = some []) (hu : X.A.units + 64 < cLine) : CallR X (.builtin "repr") (rReprQ X.K) := by
  intro pins s σ H xs us Q I r h
  obtain ⟨v, d, rfl, hd, hs, hdp, hl, q⟩ := h
  obtain ⟨u, rfl, ru⟩ := vals1 r
  obtain ⟨as, rd, hn⟩ := Dq.reads I d v u hd ru
  have fin : ∀ {a : Addr}, u = .ref a → wpAny (model X.prog X.w) X.A (call (.builtin "repr") [u]) (EP X pins σ Q) X.xe s := fun {a} e => by
    subst e
    exact repr_of_reads' rd hs (fun _ => hn) hg (by omega) (fun _ _ z => z) (fun h' u tk hk => ⟨.str _, H, I.kept hk, ⟨_, rfl⟩, q⟩) hl
  cases hd with
  | non => cases ru; exact PySem.P.repr_of_none ⟨.str _, H, I.tok _, ⟨_, rfl⟩, q⟩
  | bl b => cases ru; exact PySem.P.repr_of_bool ⟨.str _, H, I.tok _, ⟨_, rfl⟩, q⟩
  | int i => obtain ⟨t, rfl⟩ := ru; exact PySem.P.repr_of_int (by simpa [PyData.showable] using hs) ⟨.str _, H, I.tok _, ⟨_, rfl⟩, q⟩
  | str x => obtain ⟨t, rfl⟩ := ru; exact PySem.P.repr_of_str ⟨.str _, H, I.tok _, ⟨_, rfl⟩, q⟩ (by simpa [PyData.shown] using hl)
  | lst _ _ _ => exact fin ru
  | tup _ _ => exact fin ru
  | emp _ => exact fin ru
  | one _ _ => exact fin ru
/-! ### lists that are no module table -/
def NewM (H : Hp) (o : HO) (Q : VK) : Prop := ∀ p H', p ≠ sysModules → H p = none → Same H H' → H' p = some o → Q (.ref p) H'
def tLstM (t : TA) : TE := fun σ H Q => t σ H fun xs H1 => xs.length ≤ sizeLine ∧ NewM H1 (.lst xs) Q
theorem lstM {es : List Expr} {t : TA} {pos : Pos} (h : PA X es t) : PE X (.List es pos) (tLstM t) := by
  constructor
  intro pins s σ H Q I hq
  refine wpAny_List_spliced ?_
  refine thn (h.run pos pins s σ H _ I hq) fun us s1 ⟨xs, H1, I1, r, z, q⟩ => ⟨by rw [← r.length]; exact z, ?_⟩
  have hn := I1.hok.fresh (Nat.le_refl s1.heap.objs.size)
  refine ⟨.ref s1.heap.objs.size, _, I1.laid (t' := s1.toks) (o := .lst xs) (fun b u e => Heap.get?_push_of_some _ e) (Nat.le_refl _) ?_, rfl,
    q _ _ (Nat.ne_of_gt I1.big) hn (same_new hn) upd_same⟩
  exact ⟨z, us, 0, r, Heap.get?_push_size _ rfl⟩
theorem call_listM : CallR X (.type "list") (fun xs H Q => ∃ p ys, xs = [.ref p] ∧ SqT X.K H p ys ∧ NewM H (.lst ys) Q) := by
  intro pins s σ H xs us Q I r h
  obtain ⟨p, ys, rfl, hq, q⟩ := h
  obtain ⟨u, rfl, rx⟩ := vals1 r
  cases rx
  have hn := I.hok.fresh (Nat.le_refl s.heap.objs.size)
  have fin : ∀ (its : List Value), Vals ys its → ys.length ≤ sizeLine → ∀ (h' : Heap) (c' : Nat), (∀ b o', s.heap.get? b = some o' → h'.get? b = some o') →
      h'.get? s.heap.objs.size = some { cls := .type "list", dict := none, data := .seq its.toArray c', slots := #[] } → EP X pins σ Q (.ref s.heap.objs.size) { s with heap := h' } := fun its r' hz h' c' kp e =>
    ⟨.ref s.heap.objs.size, _, I.laid (t' := s.toks) kp (Nat.le_refl _) (show ObjOk X.prog X.w _ h' _ (.lst ys) from ⟨hz, its, c', r', e⟩), rfl, q _ _ (Nat.ne_of_gt I.big) hn (same_new hn) upd_same⟩
  obtain ⟨its, r', tp, hz⟩ := I.tuple hq
  have hlen := r'.length
  obtain ⟨o, ho, hc, n, hd⟩ := tp
  exact call_list_seq p (.inr rfl) ho hc hd (fun h' c' kp e => fin its r' hz h' c' kp e) (by simp only [List.size_toArray] <;> omega)
/-- xs != [] -/
def rNeLNil (K : PySem.W.Frag) : R2 := fun x y H Q => ∃ a b xs, x = .ref a ∧ y = .ref b ∧ SqL K H a xs ∧ SqL K H b [] ∧ Q (.bl (!xs.isEmpty)) H
theorem op_neLNil (hu : X.A.units + 64 < cLine) : OpR X (compareOp .NotEq) (rNeLNil X.K) := by
  intro pins s σ H x y v u Q I rx ry h
  obtain ⟨a, b, xs, rfl, rfl, ha, hb, q⟩ := h
  cases rx
  cases ry
  obtain ⟨its, rv, p, _⟩ := I.list ha
  obtain ⟨its2, rv2, p2, _⟩ := I.list hb
  cases rv2
  have hl := rv.length
  cases xs with
  | nil =>
    have : its = [] := List.eq_nil_of_length_eq_zero hl.symm
    subst this
    obtain ⟨o, ho, hc, n, hd⟩ := p.isList
    obtain ⟨o2, ho2, hc2, n2, hd2⟩ := p2.isList
    exact SeqAt.compareNe_shaped (Reads.list ho hc hd .nil) (Reads.list ho2 hc2 hd2 .nil) rfl rfl hu ⟨.bl _, H, I, rfl, q⟩
  | cons x xs =>
    cases its with
    | nil => simp at hl
    | cons i its => exact SeqAt.RcNeAt.lists_lengths p.isList p2.isList (by simp) (by omega) X.prog X.w _ _ ⟨.bl _, H, I, rfl, q⟩
end
end Cl

set_option maxHeartbeats 0
namespace Cl
open PySem PySem.Spec PyProof.Rows L2
/-! ### truths in sums -/
def b01 (b : Bool) : Int := if b = true then 1 else 0
section
variable {X : Cx}
theorem op_add_bi : OpR X (binaryOp .Add) (fun x y H Q => ∃ b j, x = .bl b ∧ y = .int j ∧ Q (.int (b01 b + j)) H) := by
  intro pins s σ H x y v u Q I rx ry h
  obtain ⟨b, j, rfl, rfl, q⟩ := h
  cases rx
  obtain ⟨t, rfl⟩ := ry
  exact PySem.IntBool.add_bool_int ⟨.int _, H, I.tok _, ⟨_, rfl⟩, q⟩
theorem op_sub_bi : OpR X (binaryOp .Sub) (fun x y H Q => ∃ b j, x = .bl b ∧ y = .int j ∧ Q (.int (b01 b - j)) H) := by
  intro pins s σ H x y v u Q I rx ry h
  obtain ⟨b, j, rfl, rfl, q⟩ := h
  cases rx
  obtain ⟨t, rfl⟩ := ry
  exact PySem.IntBool.sub_bool_int ⟨.int _, H, I.tok _, ⟨_, rfl⟩, q⟩
theorem op_sub_ib : OpR X (binaryOp .Sub) (fun x y H Q => ∃ j b, x = .int j ∧ y = .bl b ∧ Q (.int (j - b01 b)) H) := by
  intro pins s σ H x y v u Q I rx ry h
  obtain ⟨j, b, rfl, rfl, q⟩ := h
  cases ry
  obtain ⟨t, rfl⟩ := rx
  exact PySem.IntBool.sub_int_bool ⟨.int _, H, I.tok _, ⟨_, rfl⟩, q⟩
theorem op_mul_ib : OpR X (binaryOp .Mult) (fun x y H Q => ∃ j b, x = .int j ∧ y = .bl b ∧ Q (.int (j * b01 b)) H) := by
  intro pins s σ H x y v u Q I rx ry h
  obtain ⟨j, b, rfl, rfl, q⟩ := h
  cases ry
  obtain ⟨t, rfl⟩ := rx
  exact PySem.IntBool.mul_int_bool ⟨.int _, H, I.tok _, ⟨_, rfl⟩, q⟩
theorem op_eq_bi : OpR X (compareOp .Eq) (fun x y H Q => ∃ b j, x = .bl b ∧ y = .int j ∧ Q (.bl (b01 b == j)) H) := by
  intro pins s σ H x y v u Q I rx ry h
  obtain ⟨b, j, rfl, rfl, q⟩ := h
  cases rx
  obtain ⟨t, rfl⟩ := ry
  exact SeqAt.RcAt.bool_int b j t X.prog X.w _ _ ⟨.bl _, H, I, rfl, q⟩
theorem call_str_bool : CallR X (.type "str") (fun xs H Q => ∃ b : Bool, xs = [.bl b] ∧ Q (.str (if b then "True" else "False")) H) := by
  intro pins s σ H xs us Q I r h
  obtain ⟨b, rfl, q⟩ := h
  obtain ⟨u, rfl, r1⟩ := vals1 r
  cases r1
  exact PySem.P.str_of_bool ⟨.str _, H, I.tok _, ⟨_, rfl⟩, q⟩
end
/-! ### bounds of data -/
def Lf (p : Nat) : PyData → Prop
  | .none => True
  | .bool _ => True
  | .int i => i.natAbs < 2 ^ (130 + p)
  | .str x => x.cps.size ≤ 15 * 3 ^ p ∧ ∀ c ∈ x.cps.toList, c < 128
  | _ => False
inductive Gd (p : Nat) : Nat → PyData → Prop
  | lf {n : Nat} {d : PyData} : Lf p d → Gd p n d
  | lst {n : Nat} {ds : List PyData} : ds.length ≤ 5 + p → (∀ x ∈ ds, Gd p n x) → Gd p (n + 1) (.list ds)
  | tup {n : Nat} {ds : List PyData} : ds.length ≤ 5 + p → (∀ x ∈ ds, Gd p n x) → Gd p (n + 1) (.tuple ds)
  | emp {n : Nat} : Gd p (n + 1) (.dict [])
  | one {n : Nat} {i : Int} {x : PyData} : i.natAbs < 2 ^ 130 → Gd p n x → Gd p (n + 1) (.dict [(.int i, x)])
theorem Lf.up {p : Nat} {d : PyData} (h : Lf p d) : Lf (p + 1) d := by
  cases d with
  | int i =>
    have h : i.natAbs < 2 ^ (130 + p) := h
    show i.natAbs < 2 ^ (130 + p + 1)
    rw [Nat.pow_succ]
    omega
  | str x =>
    obtain ⟨h1, h2⟩ := h
    refine ⟨?_, h2⟩
    rw [Nat.pow_succ]
    omega
  | _ => exact h
theorem Gd.up {p n : Nat} {d : PyData} (h : Gd p n d) : Gd (p + 1) n d := by
  induction h with
  | lf h => exact .lf h.up
  | lst h _ ih => exact .lst (by omega) ih
  | tup h _ ih => exact .tup (by omega) ih
  | emp => exact .emp
  | one h _ ih => exact .one h ih
theorem Gd.deep {p n : Nat} {d : PyData} (h : Gd p n d) : Gd p (n + 1) d := by
  induction h with
  | lf h => exact .lf h
  | lst h _ ih => exact .lst h ih
  | tup h _ ih => exact .tup h ih
  | emp => exact .emp
  | one h _ ih => exact .one h ih
def bk : Nat → Nat
  | 0 => 135
  | n + 1 => 7 * (bk n + 1)
/-- data of which repr can be asked, and which the checkers can be asked -/
structure RepOk (d : PyData) : Prop where
  lv : d.leavesShort 200 = true
  sh : d.showable = true
  dp : d.depth ≤ 40
  bk : d.bulk ≤ 60000
theorem alls {m n : Nat} : ∀ {ds : List PyData}, (∀ x ∈ ds, x.leavesShort 200 = true ∧ x.showable = true ∧ x.depth ≤ n ∧ x.bulk ≤ m) →
    PyData.leavesShortAll 200 ds = true ∧ PyData.showableAll ds = true ∧ PyData.depthAll ds ≤ n ∧ PyData.bulkAll ds ≤ ds.length * (m + 1)
  | [], _ => ⟨rfl, rfl, Nat.zero_le _, Nat.zero_le _⟩
  | d :: ds, h => by
    obtain ⟨a1, a2, a3, a4⟩ := h d (List.mem_cons_self ..)
    obtain ⟨b1, b2, b3, b4⟩ := alls fun x hx => h x (List.mem_cons_of_mem _ hx)
    refine ⟨?_, ?_, ?_, ?_⟩
    · simp only [PyData.leavesShortAll, a1, b1, Bool.and_self]
    · simp only [PyData.showableAll, a2, b2, Bool.and_self]
    · simp only [PyData.depthAll]
      omega
    · simp only [PyData.bulkAll, List.length_cons]
      rw [Nat.succ_mul]
      omega
theorem bk_ge (n : Nat) : 135 ≤ bk n := by
  induction n with
  | zero => exact Nat.le_refl _
  | succ n ih => show 135 ≤ 7 * (bk n + 1); omega
theorem Gd.fine {p n : Nat} {d : PyData} (hp : p ≤ 2) (h : Gd p n d) : d.leavesShort 200 = true ∧ d.showable = true ∧ d.depth ≤ n ∧ d.bulk ≤ bk n := by
  induction h with
  | @lf n d h =>
    have hb := bk_ge n
    cases d with
    | none => exact ⟨rfl, rfl, Nat.zero_le _, Nat.zero_le _⟩
    | bool _ => exact ⟨rfl, rfl, Nat.zero_le _, Nat.zero_le _⟩
    | int i =>
      have h : i.natAbs < 2 ^ (130 + p) := h
      have h : okI i := Nat.lt_of_lt_of_le h (Nat.pow_le_pow_right (by omega) (by omega))
      have h1 := h.len
      have h2 := h.log
      refine ⟨?_, ?_, Nat.zero_le _, Nat.zero_le _⟩
      · simp only [PyData.leavesShort, decide_eq_true_iff]
        exact h1
      · simp only [PyData.showable, decide_eq_true_iff]
        omega
    | str x =>
      obtain ⟨h1, h2⟩ := h
      refine ⟨?_, rfl, Nat.zero_le _, ?_⟩
      · simp only [PyData.leavesShort, List.all_eq_true, decide_eq_true_iff]
        intro c hc
        exact Nat.lt_trans (h2 c hc) (by decide)
      · show x.cps.size ≤ bk n
        have : p = 0 ∨ p = 1 ∨ p = 2 := by omega
        rcases this with rfl | rfl | rfl <;> simp at h1 <;> omega
    | list _ => exact h.elim
    | tuple _ => exact h.elim
    | dict _ => exact h.elim
  | @lst n ds hl _ ih =>
    obtain ⟨a1, a2, a3, a4⟩ := alls ih
    refine ⟨a1, a2, Nat.succ_le_succ a3, Nat.le_trans a4 ?_⟩
    show _ ≤ 7 * (bk n + 1)
    exact Nat.mul_le_mul_right _ (by omega)
  | @tup n ds hl _ ih =>
    obtain ⟨a1, a2, a3, a4⟩ := alls ih
    refine ⟨a1, a2, Nat.succ_le_succ a3, Nat.le_trans a4 ?_⟩
    show _ ≤ 7 * (bk n + 1)
    exact Nat.mul_le_mul_right _ (by omega)
  | emp => exact ⟨rfl, rfl, by simp [PyData.depth, PyData.depthKv], by simp [PyData.bulk, PyData.bulkKv]⟩
  | @one n i x hi _ ih =>
    obtain ⟨a1, a2, a3, a4⟩ := ih
    have h : okI i := Nat.lt_of_lt_of_le hi (Nat.pow_le_pow_right (by omega) (by omega))
    have h1 := h.len
    have h2 := h.log
    refine ⟨?_, ?_, ?_, ?_⟩
    · simp only [PyData.leavesShort, PyData.leavesShortKv, a1, Bool.and_true, decide_eq_true_iff]
      exact h1
    · simp only [PyData.showable, PyData.showableKv, a2, Bool.and_true, decide_eq_true_iff]
      omega
    · simp only [PyData.depth, PyData.depthKv]
      omega
    · simp only [PyData.bulk, PyData.bulkKv]
      show _ ≤ 7 * (bk n + 1)
      omega
theorem Gd.rep {p n : Nat} {d : PyData} (hp : p ≤ 2) (hn : n ≤ 3) (h : Gd p n d) : RepOk d := by
  obtain ⟨a1, a2, a3, a4⟩ := h.fine hp
  refine ⟨a1, a2, by omega, Nat.le_trans a4 ?_⟩
  have : n = 0 ∨ n = 1 ∨ n = 2 ∨ n = 3 := by omega
  rcases this with rfl | rfl | rfl | rfl <;> decide
theorem asciiU : ∀ c < 128, ∀ x ∈ Unicode.upperOf c, x < 128 := by decide +kernel
theorem upper_lf {p : Nat} {x : Str} (h : Lf p (.str x)) : Lf (p + 1) (.str (Txt.upper x)) := by
  obtain ⟨h1, h2⟩ := h
  refine ⟨?_, ?_⟩
  · show (placed x fun _ c => Unicode.upperOf c).size ≤ _
    have := placed_le3 x (fun _ c => Unicode.upperOf c) (fun i c => StrLaws.upperOf_le3 c)
    have e : x.length = x.cps.size := rfl
    rw [Nat.pow_succ]
    omega
  · intro c hc
    have hc : c ∈ (placed x fun _ c => Unicode.upperOf c) := Array.mem_toList_iff.mp hc
    unfold placed at hc
    rw [Array.mem_flatten] at hc
    obtain ⟨as, h3, h4⟩ := hc
    rw [Array.mem_mapIdx] at h3
    obtain ⟨i, hi, rfl⟩ := h3
    have h4 : c ∈ Unicode.upperOf x.cps[i] := by simpa using h4
    exact asciiU _ (h2 _ (by simp)) _ h4
theorem int_lf {p : Nat} {i : Int} (hp : p ≤ 1) (h : i.natAbs < 2 ^ (130 + p)) : Lf (p + 1) (.str (Str.ofString (toString i))) := by
  refine ⟨?_, ?_⟩
  · have h : i.natAbs < 10 ^ 40 := Nat.lt_of_lt_of_le h (Nat.le_trans (Nat.pow_le_pow_right (n := 2) (by omega) (show 130 + p ≤ 131 by omega)) (by decide))
    have h1 := int_text_length_le10 (by decide) h
    have e : (Str.ofString (toString i)).length = (Str.ofString (toString i)).cps.size := rfl
    have e2 := PySem.ofString_length (toString i)
    have hk : 45 ≤ 15 * 3 ^ (p + 1) := by
      have : p = 0 ∨ p = 1 := by omega
      rcases this with rfl | rfl <;> decide
    show (Str.ofString (toString i)).cps.size ≤ 15 * 3 ^ (p + 1)
    omega
  · intro c hc
    by_cases h3 : c ≠ 45 ∧ (c < 48 ∨ 57 < c)
    · exact absurd hc (int_text_free' c h3 i)
    · omega
end Cl

set_option maxHeartbeats 0
namespace Cl
open PySem PySem.Spec PyProof.Rows L2
open GxR (TabB TabG)
/-! ### the end where a def makes a lambda too -/
def tabA (K : PySem.W.Frag) : Value → Option Addr
  | .ref c => match K.lookup c with
    | some o => match o.data with
      | .fields (vs : Array Value) => match (vs[11]? : Option Value) with
        | some (Value.ref P) => some P
        | _ => none
      | _ => none
    | none => none
  | _ => none
def tabDis (K : PySem.W.Frag) (x y : Value) : Bool := match tabA K x, tabA K y with
  | some a, some b => a != b
  | _, _ => false
theorem tabA_at {K : PySem.W.Frag} {h : Heap} {c P P' : Addr} (X : K.In h) (C : PySem.W.CodeHd h c P) (e : tabA K (.ref c) = some P') : P' = P := by
  obtain ⟨o, vs, _, _, _, _, _, _, _, h1, _, h3, h4, _⟩ := C
  unfold tabA at e
  simp only at e
  split at e
  · rename_i o' ho
    have := X _ _ ho
    rw [h1] at this
    cases this
    rw [h3] at e
    simp only [h4] at e
    exact (Option.some.inj e).symm
  · cases e
theorem tabDis_ne {K : PySem.W.Frag} {h : Heap} {c c' P P' : Addr} (X : K.In h) (C : PySem.W.CodeHd h c P) (C' : PySem.W.CodeHd h c' P') (d : tabDis K (.ref c) (.ref c') = true) : P ≠ P' := by
  unfold tabDis at d
  split at d
  · rename_i a b e1 e2
    rw [← tabA_at X C e1, ← tabA_at X C' e2]
    exact of_decide_eq_true (by simpa using d)
  · cases d
theorem endGL {l : PySem.W.OpenLaw} {n k : Nat} {q : Program} {loose : List Str} {XP : (Str → Option Value) → Heap → Prop}
    {YP : World → Heap → Prop} {d : DefRec} {K : Params → PySem.W.Frag} {sp : PySem.W.Frag → List (Addr × Addr) → List (Addr × Addr) → Sp} {x : Str} {ts : List Str}
    (hn : l.most = some n) (hn2 : n ≤ sizeLine) (hdf : d.params.defaults = []) (hr : RG k callerA) (hrec : (ts.all fun n => (recsOf q).any fun e => e.name == n) = true)
    (hY : ∀ (w : World) (h : Heap), YP w h → (K w.params).In h)
    (F : ∀ (w : World) (mg : Str → Option Value) (fa : Addr) (h : Heap), (K w.params).In h → h.Ns mainGlobals mg →
      mg d.name = some (.ref fa) → (∀ n ∈ ts, TabN mg h n) → ∃ (fd : FuncData) (cs1 cs2 : List (Addr × Addr)), (∀ p ∈ cs1 ++ cs2, PySem.W.CodeHd h p.1 p.2 ∧ h.TableAt p.1 p.2 #[] ∧ (K w.params).lookup p.2 = none) ∧ (∀ p ∈ cs1, ∀ p' ∈ cs2, p.2 ≠ p'.2) ∧ (∀ (s : Shared) (u : Value), BindsTo s fd ⟨[u], []⟩ [(x, u)]) ∧
        ∀ base : Heap, (K w.params).In base → base.Ns mainGlobals mg → (∀ p ∈ cs1 ++ cs2, TabB base mg p.1 p.2) → FnG l.prog w (K w.params) mg base CX0 k fa fd [x] (sp (K w.params) cs1 cs2))
    (hsp : ∀ (w : World) (cs1 cs2 : List (Addr × Addr)) (H : Hp) (a : Addr) (ns : List Int), ns.length ≤ n → (∀ z ∈ ns, Builtin.Int.intBits z ≤ 1048576) →
      (∀ p ∈ cs1, H p.2 = some (.tbl #[])) → (∀ p ∈ cs2, H p.2 = some (TabAt p.2 [])) → (∀ p ∈ cs1, ∀ p' ∈ cs2, p.2 ≠ p'.2) → SqL (K w.params) H a (ns.map V.int) → sp (K w.params) cs1 cs2 [.ref a] H (fun v H' => v = .bl true ∧ ∀ p ∈ cs2, ∃ cs' : List Addr, H' p.2 = some (TabAt p.2 cs')) E0) :
    PySem.W.WalkO q loose XP YP l.row.toRowW d [] (fun f vs => PySem.call f vs) := by
  refine Att.attach_callB hn hdf fun w s₀ s1 mg mb fa o pm cd doc a us ns G Y ho hd hcd hmg obj hints nlen bits gens => ?_
  have inK : (K w.params).In s1.heap := hY w _ Y
  have tn : ∀ n ∈ ts, TabN mg s1.heap n := fun n hn => by
    obtain ⟨dL, h1, h2⟩ := List.any_eq_true.mp (List.all_eq_true.mp hrec n hn)
    have h2 : dL.name = n := beq_iff_eq.mp h2
    obtain ⟨f, o, fd, c, P, t1, t2, t3, t4, t5, t6⟩ := G.T.tab dL h1
    exact ⟨f, o, fd, c, P, by rw [← h2]; exact t1, t2, t3, t4, .of t5 t6, t6⟩
  obtain ⟨fd, cs1, cs2, hcs, hne, bind, hF⟩ := F w mg fa _ inK G.T.g hmg tn
  have rv := vals_ints hints
  have nv : us.length = ns.length := hints.length
  obtain ⟨T, hT⟩ : ∃ T, T = (cs1 ++ cs2).map (·.2) := ⟨_, rfl⟩
  obtain ⟨T2, hT2⟩ : ∃ T2, T2 = cs2.map (·.2) := ⟨_, rfl⟩
  have isT : ∀ b ∈ T, s1.heap.get? b = some { cls := .none, data := .fields #[] } := fun b hb => by
    rw [hT] at hb
    obtain ⟨p, hp, e⟩ := List.mem_map.mp hb
    rw [← e]
    exact (hcs p hp).2.1.2
  have memT : ∀ p ∈ cs1 ++ cs2, p.2 ∈ T := fun p hp => by rw [hT]; exact List.mem_map.mpr ⟨p, hp, rfl⟩
  have memT2 : ∀ p ∈ cs2, p.2 ∈ T2 := fun p hp => by rw [hT2]; exact List.mem_map.mpr ⟨p, hp, rfl⟩
  have subT : ∀ b ∈ T2, b ∈ T := fun b hb => by
    rw [hT2] at hb
    obtain ⟨p, hp, e⟩ := List.mem_map.mp hb
    rw [← e]
    exact memT p (List.mem_append_right _ hp)
  have offT : ∀ p ∈ cs1, p.2 ∉ T2 := fun p hp z => by
    rw [hT2] at z
    obtain ⟨p', hp', e⟩ := List.mem_map.mp z
    exact hne p hp p' hp' e.symm
  have aT : a ∉ T := fun z => by
    have q := isT a z
    rw [obj] at q
    have z' : Data.seq us.toArray _ = Data.fields #[] := congrArg Obj.data (Option.some.inj q)
    cases z'
  have small : ns.length ≤ sizeLine := Nat.le_trans nlen hn2
  have go : ∀ H : Hp, (∀ b ∈ T, b ∉ T2 → H b = some (.tbl #[])) → (∀ b ∈ T2, H b = some (TabAt b [])) → (∀ b, b ∉ T → H b = none ∨ ∃ ob xs, H b = some (.frz ob (.lst xs))) → SqL (K w.params) H a (ns.map V.int) → HOk l.prog w H s1.heap → (∀ b, H b ≠ none → b = a ∨ b ∈ T) →
      (H a ≠ none → (K w.params).lookup a = none) → codeAny (model l.prog w) callerA (.call (.ref fa) ⟨[.ref a], []⟩)
        (fun r s' => r = .ok (.ret (.bool true)) ∧ OldK s1.heap s'.heap ∧ s'.os = s1.os ∧ AllBare s'.gens) s1 := by
    intro H hTb hTb2 only hS hok atA offK
    have left : ∀ {b : Addr} {o : Obj}, s1.heap.get? b = some o → H b = none → (hidT s1.heap H).get? b = some o :=
      fun e z => hidT_get e z
    -- what is no list and no empty table is not tracked
    have nothing : ∀ {b : Addr} {o : Obj}, s1.heap.get? b = some o → (∀ vs n, o.data ≠ .seq vs n) → o.data ≠ .fields #[] → H b = none := fun {b o} e h1 h2 => by
      cases z : H b with
      | none => rfl
      | some u =>
        rcases atA b (by rw [z]; intro y; cases y) with y | y
        · rw [y, obj] at e
          cases e
          exact absurd rfl (h1 _ _)
        · rw [isT b y] at e
          cases e
          exact absurd rfl h2
    have spaces : ∀ {b : Addr} {m : Str → Option Value}, s1.heap.Ns b m → (hidT s1.heap H).Ns b m :=
      fun {b m} ⟨o, es, ep, e, z, r⟩ => ⟨o, es, ep, left e (nothing e (fun vs n y => by rw [z] at y; cases y) (fun y => by rw [z] at y; cases y)), z, r⟩
    have inB : (K w.params).In (hidT s1.heap H) := fun b o e => left (inK b o e) (by
      cases z : H b with
      | none => rfl
      | some u =>
        rcases atA b (by rw [z]; intro y; cases y) with y | y
        · subst y
          rw [offK (by rw [z]; intro y; cases y)] at e
          cases e
        · rw [hT] at y
          obtain ⟨p, hp, ep⟩ := List.mem_map.mp y
          rw [← ep, (hcs p hp).2.2] at e
          cases e)
    have md : Mod (K w.params) mg (hidT s1.heap H) := by
      obtain ⟨mc, c1, c2⟩ := G.T.nolimit
      exact ⟨inB, spaces G.T.g, ⟨mb, spaces G.T.b, G.T.builtins⟩, ⟨mc, spaces c1, c2⟩⟩
    have TB : ∀ p ∈ cs1 ++ cs2, TabB (hidT s1.heap H) mg p.1 p.2 := fun p hp => by
      have hTp := isT _ (memT p hp)
      refine ⟨?_, ?_, fun z => ?_⟩
      · obtain ⟨o, us', file, tf, flags, tg, inF, text, tt, e1, r1, r2, r3, r⟩ := (hcs p hp).1
        refine ⟨o, us', file, tf, flags, tg, inF, text, tt, left e1 (nothing e1 (fun vs n z => ?_) fun z => ?_), r1, r2, r3, r⟩
        · rw [r2] at z
          cases z
        · rw [r2] at z
          cases z
          simp at r3
      · obtain ⟨bm, ob, b1, b2, b3, b4, b5, b6⟩ := G.T.bmain
        have nG : bm ≠ mainGlobals := fun y => by
          obtain ⟨o, es, ep, e, z, _⟩ := G.T.g
          rw [y, e] at b3
          cases b3
          rw [z] at b6
          cases b6
        have nP : bm ≠ p.2 := fun y => by
          rw [y, hTp] at b3
          cases b3
          cases b6
        refine ⟨bm, ob, b1, b2, nG, nP, left b3 (nothing b3 (fun vs n z => ?_) fun z => ?_), b4, b5, b6⟩
        · rw [b6] at z
          cases z
        · rw [b6] at z
          cases z
      · obtain ⟨o, es, ep, e, y, _⟩ := G.T.g
        rw [z, hTp] at e
        cases e
        cases y
    have e0 : Env0 l.prog w (K w.params) mg (hidT s1.heap H) callerA [] s1 H :=
      ⟨rfl, md, fun b o e => of_hidT e, Nat.le_of_eq (hidT_size _ _), trivial, fun b z => (nomatch z), hok, .of_eq gens⟩
    have run := (hF _ inB (spaces G.T.g) TB).run callerA [] s1 H ⟨[.ref a], []⟩ [.ref a] [.ref a] _ _ hr e0
      (bind s1 (.ref a)) (.cons rfl .nil) (hsp w cs1 cs2 H a ns nlen bits (fun p hp => hTb _ (memT p (List.mem_append_left _ hp)) (offT p hp)) (fun p hp => hTb2 _ (memT2 p hp)) hne hS)
    refine codeAny_mono run fun res s' h => ?_
    match res, h with
    | .error e, h => exact h.elim
    | .ok .next, h => exact h.elim
    | .ok .brk, h => exact h.elim
    | .ok .cont, h => exact h.elim
    | .ok (.ret u), ⟨v, H', os, bare, un, hok', r', q⟩ =>
      obtain ⟨q', qT⟩ := q
      subst q'
      have r2 : u = Value.bool true := r'
      subst r2
      have stays : ∀ b o, b ∉ T → s1.heap.get? b = some o → s'.heap.get? b = some o := fun b o hb e => by
        cases z : H b with
        | none => exact un.keep b o e z (fun y => (nomatch y)) (fun y => (nomatch y))
        | some u =>
          rcases only b hb with y | ⟨ob, xs, y⟩
          · rw [z] at y
            cases y
          · obtain ⟨e1, _⟩ := hok b _ y
            obtain ⟨e2, _⟩ := hok' b _ (un.frzs b ob _ y)
            rw [e] at e1
            cases e1
            exact e2
      have grows : ∀ b ∈ T, ∃ more : Array Value, s'.heap.get? b = some { cls := .none, data := .fields (#[] ++ more) } := fun b hb => by
        by_cases hb2 : b ∈ T2
        · rw [hT2] at hb2
          obtain ⟨p, hp, e⟩ := List.mem_map.mp hb2
          obtain ⟨cs', e'⟩ := qT p hp
          rw [← e]
          obtain ⟨⟨ps, e3, _⟩, _⟩ := hok' _ _ e'
          exact ⟨ps, by rw [e3]; simp⟩
        · obtain ⟨more, z⟩ := un.tbls b #[] (hTb b hb hb2)
          exact ⟨more, hok' b _ z⟩
      refine ⟨rfl, ⟨fun b o e => ?_, fun b o e => ?_⟩, os, bare⟩
      · by_cases hb : b ∈ T
        · obtain ⟨more, hm⟩ := grows b hb
          have hb2 := hb
          rw [hT] at hb2
          obtain ⟨p, hp, ep⟩ := List.mem_map.mp hb2
          rw [isT b hb] at e
          cases e
          exact .inr (.inl ⟨by rw [← ep]; exact (hcs p hp).2.1.isCodeTable, rfl, #[], more, rfl, hm⟩)
        · exact .inl (stays b o hb e)
      · by_cases hb : b ∈ T
        · obtain ⟨more, hm⟩ := grows b hb
          exact ⟨_, hm⟩
        · exact ⟨o, stays b o hb e⟩
  let Hf : Option HO → Hp := fun u b => if b ∈ T2 then some (TabAt b []) else if b ∈ T then some (.tbl #[]) else if b = a then u else none
  have hf : ∀ u b, b ∈ T → b ∉ T2 → Hf u b = some (.tbl #[]) := fun u b hb hb2 => (if_neg hb2).trans (if_pos hb)
  have hf0 : ∀ u b, b ∈ T2 → Hf u b = some (TabAt b []) := fun u b hb => if_pos hb
  have hf2 : ∀ u b, b ∉ T → b ≠ a → Hf u b = none := fun u b hb hn => (if_neg fun z => hb (subT b z)).trans ((if_neg hb).trans (if_neg hn))
  have hf3 : ∀ u, Hf u a = u := fun u => (if_neg fun z => aT (subT a z)).trans ((if_neg aT).trans (if_pos rfl))
  have okT : ∀ b ∈ T2, ∀ H : Hp, ObjOk l.prog w H s1.heap b (TabAt b []) := fun b hb H => ⟨⟨#[], isT b (subT b hb), True.intro, fun pos cv hc => by
    have z : codeAmong pos [] = some cv := hc
    simp [codeAmong] at z⟩, ⟨_, isT b (subT b hb)⟩, fun h1 h2 ⟨ps, a, b, c⟩ st => ⟨ps, st _ a, b, c⟩⟩
  cases hk : (K w.params).lookup a with
  | some o =>
    have e := inK a o hk
    rw [obj] at e
    cases e
    refine go (Hf none) (fun b hb => hf none b hb) (hf0 none) (fun b hb => ?_) (.inr ⟨_, us.toArray, _, hk, rfl, rfl, rfl, ?_, by simpa using rv⟩)
      (fun b u z => ?_) (fun b z => ?_) fun z => absurd (hf3 none) z
    · by_cases hn : b = a
      · rw [hn]; exact .inl (hf3 none)
      · exact .inl (hf2 none b hb hn)
    · rw [List.size_toArray, nv]
      exact small
    · by_cases hb : b ∈ T
      · by_cases hb2 : b ∈ T2
        · rw [hf0 none b hb2] at z
          cases z
          exact okT b hb2 _
        · rw [hf none b hb hb2] at z
          cases z
          exact isT b hb
      · by_cases hn : b = a
        · rw [hn, hf3] at z; cases z
        · rw [hf2 none b hb hn] at z; cases z
    · by_cases hb : b ∈ T
      · exact .inr hb
      · by_cases hn : b = a
        · exact .inl hn
        · exact absurd (hf2 none b hb hn) z
  | none =>
    let ob : Obj := { cls := .type "list", data := .seq us.toArray }
    refine go (Hf (some (.frz ob (.lst (ns.map V.int))))) (fun b hb => hf _ b hb) (hf0 _) (fun b hb => ?_) (.inl (.inr ⟨ob, hf3 _⟩)) (fun b u z => ?_) (fun b z => ?_) fun _ => hk
    · by_cases hn : b = a
      · rw [hn]; exact .inr ⟨_, _, hf3 _⟩
      · exact .inl (hf2 _ b hb hn)
    · by_cases hb : b ∈ T
      · by_cases hb2 : b ∈ T2
        · rw [hf0 _ b hb2] at z
          cases z
          exact okT b hb2 _
        · rw [hf _ b hb hb2] at z
          cases z
          exact isT b hb
      · by_cases hn : b = a
        · rw [hn, hf3] at z
          cases z
          rw [hn]
          exact ⟨obj, by rw [List.length_map]; exact small, us, _, rv, obj⟩
        · rw [hf2 _ b hb hn] at z; cases z
    · by_cases hb : b ∈ T
      · exact .inr hb
      · by_cases hn : b = a
        · exact .inl hn
        · exact absurd (hf2 _ b hb hn) z
end Cl

set_option maxHeartbeats 0
namespace Cl
open PySem PySem.Spec PyProof.Rows L2
def topS (i : Nat) : Stmt := PySem.Challenge.pw_cornerlines_k24_how_far_off.main.body.getD i (.Pass ⟨0, 0, 0, 0⟩)

abbrev sstep_of : Stmt := topS 1
theorem scstep_of : FnScope ["line", "x", "y", "far_x", "far_y"] ["line"] (defScope sstep_of) := ⟨rfl, rfl, rfl, by decide +kernel, rfl, by decide +kernel, by decide +kernel⟩
abbrev sgreatest_parting : Stmt := topS 3
theorem scgreatest_parting : FnScope ["n", "m"] ["n", "m"] (defScope sgreatest_parting) := ⟨rfl, rfl, rfl, by decide +kernel, rfl, by decide +kernel, by decide +kernel⟩
abbrev slowest : Stmt := topS 4
theorem sclowest : FnScope ["n", "d", "part"] ["n", "d"] (defScope slowest) := ⟨rfl, rfl, rfl, by decide +kernel, rfl, by decide +kernel, by decide +kernel⟩
abbrev sis_less : Stmt := topS 5
theorem scis_less : FnScope ["one", "other"] ["one", "other"] (defScope sis_less) := ⟨rfl, rfl, rfl, by decide +kernel, rfl, by decide +kernel, by decide +kernel⟩
abbrev sgreater_of : Stmt := topS 6
theorem scgreater_of : FnScope ["one", "other"] ["one", "other"] (defScope sgreater_of) := ⟨rfl, rfl, rfl, by decide +kernel, rfl, by decide +kernel, by decide +kernel⟩
abbrev soff_of : Stmt := topS 8
theorem scoff_of : FnScope ["grain", "line", "path", "off", "corner"] ["grain", "line", "path"] (defScope soff_of) := ⟨rfl, rfl, rfl, by decide +kernel, rfl, by decide +kernel, by decide +kernel⟩
abbrev sway_off : Stmt := topS 9
theorem scway_off : FnScope ["grain", "line", "corner", "share", "k", "m", "x", "y", "dx", "dy"] ["grain", "line", "corner", "share"] (defScope sway_off) := ⟨rfl, rfl, rfl, by decide +kernel, rfl, by decide +kernel, by decide +kernel⟩
abbrev sway_from : Stmt := topS 10
theorem scway_from : FnScope ["grain", "line", "corner", "i", "j"] ["grain", "line", "corner"] (defScope sway_from) := ⟨rfl, rfl, rfl, by decide +kernel, rfl, by decide +kernel, by decide +kernel⟩
abbrev snearest_share : Stmt := topS 11
theorem scnearest_share : FnScope ["grain", "line", "corner", "best", "share"] ["grain", "line", "corner"] (defScope snearest_share) := ⟨rfl, rfl, rfl, by decide +kernel, rfl, by decide +kernel, by decide +kernel⟩
abbrev sturning_shares : Stmt := topS 12
theorem scturning_shares : FnScope ["grain", "line", "corner", "x", "y", "dx", "dy", "shares", "k", "m"] ["grain", "line", "corner"] (defScope sturning_shares) := ⟨rfl, rfl, rfl, by decide +kernel, rfl, by decide +kernel, by decide +kernel⟩
abbrev s_law_deck : Stmt := topS 14
theorem sc_law_deck : FnScope ["_law_script", "_law_cell"] ["_law_script"] (defScope s_law_deck) := ⟨rfl, rfl, rfl, by decide +kernel, rfl, by decide +kernel, by decide +kernel⟩
abbrev s_law_draw : Stmt := topS 15
theorem sc_law_draw : FnScope ["_law_deck_here", "_law_most", "_law_cell", "_law_number"] ["_law_deck_here", "_law_most"] (defScope s_law_draw) := ⟨rfl, rfl, rfl, by decide +kernel, rfl, by decide +kernel, by decide +kernel⟩
abbrev s_law_grain : Stmt := topS 16
theorem sc_law_grain : FnScope ["_law_deck_here"] ["_law_deck_here"] (defScope s_law_grain) := ⟨rfl, rfl, rfl, by decide +kernel, rfl, by decide +kernel, by decide +kernel⟩
abbrev s_law_point : Stmt := topS 17
theorem sc_law_point : FnScope ["_law_deck_here", "_law_grain_here", "_law_way", "_law_x", "_law_y"] ["_law_deck_here", "_law_grain_here", "_law_way"] (defScope s_law_point) := ⟨rfl, rfl, rfl, by decide +kernel, rfl, by decide +kernel, by decide +kernel⟩
abbrev s_law_unlike : Stmt := topS 18
theorem sc_law_unlike : FnScope ["_law_one", "_law_other"] ["_law_one", "_law_other"] (defScope s_law_unlike) := ⟨rfl, rfl, rfl, by decide +kernel, rfl, by decide +kernel, by decide +kernel⟩
abbrev s_law_line : Stmt := topS 19
theorem sc_law_line : FnScope ["_law_deck_here", "_law_grain_here", "_law_lines_here", "_law_way", "_law_one", "_law_other", "_law_x", "_law_y", "_law_u", "_law_v", "_law_number"] ["_law_deck_here", "_law_grain_here", "_law_lines_here"] (defScope s_law_line) := ⟨rfl, rfl, rfl, by decide +kernel, rfl, by decide +kernel, by decide +kernel⟩
abbrev s_law_lines : Stmt := topS 20
theorem sc_law_lines : FnScope ["_law_deck_here", "_law_grain_here", "_law_many", "_law_lines_here", "_law_k"] ["_law_deck_here", "_law_grain_here", "_law_many"] (defScope s_law_lines) := ⟨rfl, rfl, rfl, by decide +kernel, rfl, by decide +kernel, by decide +kernel⟩
abbrev s_law_moved : Stmt := topS 21
theorem sc_law_moved : FnScope ["_law_lines_here", "_law_dx", "_law_dy", "_law_x", "_law_y", "_law_u", "_law_v"] ["_law_lines_here", "_law_dx", "_law_dy"] (defScope s_law_moved) := ⟨rfl, rfl, rfl, by decide +kernel, rfl, by decide +kernel, by decide +kernel⟩
abbrev s_law_turn : Stmt := topS 22
theorem sc_law_turn : FnScope ["_law_one", "_law_other"] ["_law_one", "_law_other"] (defScope s_law_turn) := ⟨rfl, rfl, rfl, by decide +kernel, rfl, by decide +kernel, by decide +kernel⟩
abbrev s_law_less : Stmt := topS 23
theorem sc_law_less : FnScope ["_law_one", "_law_other"] ["_law_one", "_law_other"] (defScope s_law_less) := ⟨rfl, rfl, rfl, by decide +kernel, rfl, by decide +kernel, by decide +kernel⟩
abbrev s_law_common : Stmt := topS 24
theorem sc_law_common : FnScope ["_law_one", "_law_other", "_law_a", "_law_b", "_law_c", "_law_e", "_law_way", "_law_there", "_law_far_here", "_law_whole", "_law_first", "_law_last", "_law_point_here", "_law_sign_here", "_law_share"] ["_law_one", "_law_other"] (defScope s_law_common) := ⟨rfl, rfl, rfl, by decide +kernel, rfl, by decide +kernel, by decide +kernel⟩
abbrev s_law_nearest : Stmt := topS 25
theorem sc_law_nearest : FnScope ["_law_grain_here", "_law_spot", "_law_n", "_law_m", "_law_d"] ["_law_grain_here", "_law_spot"] (defScope s_law_nearest) := ⟨rfl, rfl, rfl, by decide +kernel, rfl, by decide +kernel, by decide +kernel⟩
abbrev s_law_corners : Stmt := topS 26
theorem sc_law_corners : FnScope ["_law_grain_here", "_law_lines_here", "_law_found", "_law_k", "_law_x", "_law_y", "_law_some", "_law_m"] ["_law_grain_here", "_law_lines_here"] (defScope s_law_corners) := ⟨rfl, rfl, rfl, by decide +kernel, rfl, by decide +kernel, by decide +kernel⟩
abbrev s_law_met : Stmt := topS 27
theorem sc_law_met : FnScope ["_law_grain_here", "_law_line_here", "_law_corner", "_law_x", "_law_y", "_law_u", "_law_v", "_law_rows", "_law_whole", "_law_shares", "_law_first", "_law_way", "_law_k", "_law_side", "_law_share", "_law_one", "_law_other", "_law_inside", "_law_at", "_law_low", "_law_high"] ["_law_grain_here", "_law_line_here", "_law_corner"] (defScope s_law_met) := ⟨rfl, rfl, rfl, by decide +kernel, rfl, by decide +kernel, by decide +kernel⟩
abbrev s_law_sign : Stmt := topS 28
theorem sc_law_sign : FnScope ["_law_number"] ["_law_number"] (defScope s_law_sign) := ⟨rfl, rfl, rfl, by decide +kernel, rfl, by decide +kernel, by decide +kernel⟩
abbrev s_law_path : Stmt := topS 29
theorem sc_law_path : FnScope ["_law_grain_here", "_law_line_here", "_law_corners_here", "_law_x", "_law_y", "_law_u", "_law_v", "_law_some", "_law_corner", "_law_right", "_law_up"] ["_law_grain_here", "_law_line_here", "_law_corners_here"] (defScope s_law_path) := ⟨rfl, rfl, rfl, by decide +kernel, rfl, by decide +kernel, by decide +kernel⟩
abbrev s_law_far : Stmt := topS 30
theorem sc_law_far : FnScope ["_law_grain_here", "_law_line_here", "_law_corner", "_law_rows", "_law_axis", "_law_begin", "_law_step", "_law_shares", "_law_other", "_law_way", "_law_least", "_law_k", "_law_m", "_law_far_here"] ["_law_grain_here", "_law_line_here", "_law_corner"] (defScope s_law_far) := ⟨rfl, rfl, rfl, by decide +kernel, rfl, by decide +kernel, by decide +kernel⟩
abbrev s_law_lowest : Stmt := topS 31
theorem sc_law_lowest : FnScope ["_law_n", "_law_d", "_law_one", "_law_other"] ["_law_n", "_law_d"] (defScope s_law_lowest) := ⟨rfl, rfl, rfl, by decide +kernel, rfl, by decide +kernel, by decide +kernel⟩
abbrev s_law_off : Stmt := topS 32
theorem sc_law_off : FnScope ["_law_grain_here", "_law_line_here", "_law_path_here", "_law_found", "_law_corner", "_law_n", "_law_d"] ["_law_grain_here", "_law_line_here", "_law_path_here"] (defScope s_law_off) := ⟨rfl, rfl, rfl, by decide +kernel, rfl, by decide +kernel, by decide +kernel⟩
abbrev s_law_any_path : Stmt := topS 33
theorem sc_law_any_path : FnScope ["_law_deck_here", "_law_grain_here", "_law_line_here", "_law_lots", "_law_x", "_law_y", "_law_u", "_law_v", "_law_wide", "_law_found", "_law_k", "_law_share", "_law_i", "_law_j", "_law_far_here"] ["_law_deck_here", "_law_grain_here", "_law_line_here", "_law_lots"] (defScope s_law_any_path) := ⟨rfl, rfl, rfl, by decide +kernel, rfl, by decide +kernel, by decide +kernel⟩
abbrev s_law_far_lines : Stmt := topS 34
theorem sc_law_far_lines : FnScope ["_law_deck_here", "_law_grain_here", "_law_lines_here", "_law_most", "_law_i", "_law_j"] ["_law_deck_here", "_law_grain_here", "_law_lines_here"] (defScope s_law_far_lines) := ⟨rfl, rfl, rfl, by decide +kernel, rfl, by decide +kernel, by decide +kernel⟩
abbrev s_law_cases : Stmt := topS 35
theorem sc_law_cases : FnScope ["_law_deck_here", "_law_grain_here", "_law_lines_here", "_law_corners_here", "_law_found", "_law_line_here", "_law_lots"] ["_law_deck_here"] (defScope s_law_cases) := ⟨rfl, rfl, rfl, by decide +kernel, rfl, by decide +kernel, by decide +kernel⟩
abbrev s_law_told : Stmt := topS 36
theorem sc_law_told : FnScope ["_law_grain_here", "_law_line_here", "_law_path_here", "_law_due", "_law_found"] ["_law_grain_here", "_law_line_here", "_law_path_here", "_law_due"] (defScope s_law_told) := ⟨rfl, rfl, rfl, by decide +kernel, rfl, by decide +kernel, by decide +kernel⟩
abbrev slaw : Stmt := topS 37
theorem sclaw : FnScope ["_law_script", "_law_deck_here", "_law_grain_here", "_law_cases_here", "_law_line_here", "_law_path_here", "_law_is_drawn", "_law_due", "_law_on", "_law_i", "_law_j", "_law_part", "_law_n", "_law_d"] ["_law_script"] (defScope slaw) := ⟨rfl, rfl, rfl, by decide +kernel, rfl, by decide +kernel, by decide +kernel⟩
structure Bt (mg : Str → Option Value) : Prop where
  list : mg "list" = none
  sum : mg "sum" = none
  len : mg "len" = none
  range : mg "range" = none
  abs : mg "abs" = none
  max : mg "max" = none
  min : mg "min" = none
  tuple : mg "tuple" = none
  int : mg "int" = none
  sorted : mg "sorted" = none
  repr : mg "repr" = none
  zip : mg "zip" = none
  dict : mg "dict" = none
theorem cut63 {ns : List Int} (h : ns.length ≤ 63) : cutV (ns.map V.int) none (some 63) = ns.map V.int := by
  unfold cutV
  rw [HT.sIx_none, show HT.sIx (ns.map V.int).length (ns.map V.int).length (some 63) = min 63 (ns.map V.int).length from HT.sIx_nat _ _ 63, List.length_map]
  rw [List.drop_zero, List.take_of_length_le (by rw [List.length_map]; omega)]
section
variable {P : Program} {w : World} {K : PySem.W.Frag} {mg : Str → Option Value} {base : Heap}
theorem ok_law_deck {f : Addr} {fd : FuncData} (F : Fun K "_law_deck" "_law_deck" s_law_deck f fd) (T : Bt mg) :
    FnG P w K mg base CX0 1 f fd ["_law_script"] (spDeck K) := by
  refine okG (k := 0) F sc_law_deck (fun vs H Q E h => ?_) (fun cdv A outer s H vs Q E hr h => ?_)
  · obtain ⟨a, ns, rfl, _⟩ := h
    rfl
  · obtain ⟨a, ns, rfl, hS, hlen, q⟩ := h
    refine ⟨_, (pss_one (ps_ret (lstN (pa_cons (pe_revL (pe_callTy call_list_ofN (by rfl) T.list (by decide +kernel) (pa_cons (pe_slice sl_listN (pv 0) po_none (po_some pe_int)) pa_nil))) (pa_cons (pe_op op_add (pe_callB (cr_sum rfl) (by rfl) T.sum (by decide +kernel) (pa_cons (pe_lc (own := [("_law_cell", 1)]) (g := gName 1) (tt := tYes) (by rfl) sc_law_deck.nd (pi_list (pe_slice sl_listN (pv 0) po_none (po_some pe_int))) (blkOk_by (own := [("_law_cell", 1)]) (N := ["_law_script", "_law_cell"]) (sc := defScope s_law_deck) (by decide +kernel)) (fun _ _ _ _ _ => (pg_name (i := 1) sc_law_deck.nd rfl (.inl rfl))) (fun _ _ _ _ _ => pts_nil) (fun _ _ _ _ _ => (pe_op op_mod (pv 1) pe_int))) pa_nil)) (pe_op op_mul pe_int (pe_callB call_len_seq (by rfl) T.len (by decide +kernel) (pa_cons (pe_slice sl_listN (pv 0) po_none (po_some pe_int)) pa_nil)))) (pa_cons pe_int pa_nil)))))), ?_⟩
    -- list(script[:63])[::-1]
    refine ⟨.ref a, rfl, 63, rfl, a, _, rfl, hS, fun p1 H1 n1 s1 g1 => ⟨p1, _, rfl, .inl (.inl (.inl g1)), fun p2 H2 n2 s2 g2 => ⟨p2, _, rfl, .inl (.inl g2), fun l H3 n3 s3 g3 => ?_⟩⟩⟩
    have t3 : Same H H3 := (s1.trans s2).trans s3
    rw [cut63 hlen, ← List.map_reverse] at g3
    -- sum([cell % 1000003 for cell in script[:63]])
    refine ⟨.ref a, rfl, 63, rfl, a, _, rfl, t3.seq hS, fun p4 H4 n4 s4 g4 => ⟨p4, rfl, ⟨_, .inl (.inl g4)⟩, fun p5 n5 => ?_⟩⟩
    rw [cut63 hlen] at g4
    refine lcL (K := K) (a := p4) (xs := ns.map V.int) (fun i H' => Same H4 H' ∧ H' p5 = some (.lst ((ns.take i).map fun z => V.int (z % 1000003)))) n5 (fun H' e1 e2 => ⟨e1, e2⟩) (fun i H' _ z => .inl (.inl (z.1 _ _ g4))) (fun i x H' hx z => ?_) (fun H5 z => ?_)
    · obtain ⟨e1, e2⟩ := z
      rw [List.getElem?_map] at hx
      cases hn : ns[i]? with
      | none => rw [hn] at hx; cases hx
      | some y =>
        rw [hn] at hx
        cases hx
        refine ⟨rfl, _, rfl, _, _, rfl, rfl, (by show (0 : Int) < 1000003; decide), _, e2, ?_, ?_, ?_⟩
        · rw [List.length_map, List.length_take]
          exact small1000 (by omega)
        · intro b o e
          rw [upd_ne (ne_of_none e n5)]
          exact e1 _ _ e
        · rw [upd_same, List.take_add_one, hn, List.map_append]
          rfl
    · obtain ⟨e1, e2⟩ := z
      have l1 : (ns.map V.int).length = ns.length := List.length_map _
      rw [l1, List.take_length] at e2
      have t5 : Same H H5 := (t3.trans s4).trans e1
      refine ⟨p5, ns.map fun z => z % 1000003, rfl, .inl (.inl ?_), .ref a, rfl, 63, rfl, a, _, rfl, t5.seq hS, fun p6 H6 n6 s6 g6 => ?_⟩
      · rw [e2, List.map_map]
        rfl
      refine ⟨p6, _, rfl, .inl (.inl (.inl g6)), _, _, rfl, rfl, .inl (by decide), _, _, rfl, rfl, (by show 3 ≤ sizeLine; decide), fun d H7 n7 s7 g7 => ?_⟩
      have t37 : Same H3 H7 := ((s4.trans e1).trans s6).trans s7
      have hl : H7 l = some (.lst (ns.reverse.map V.int)) := t37 _ _ g3
      exact q d l H7 (((t5.trans s6)).trans s7) ⟨ne_of g7 hl (by intro z; cases hns : ns.reverse with
        | nil => rw [hns] at z; cases z
        | cons y r => rw [hns] at z; cases z), _, _, _, g7, hl, by rw [List.length_reverse]; exact hlen⟩

theorem ok_law_draw {f : Addr} {fd : FuncData} (F : Fun K "_law_draw" "_law_draw" s_law_draw f fd) (T : Bt mg) :
    FnG P w K mg base CX0 1 f fd ["_law_deck_here", "_law_most"] spDraw := by
  refine okG (k := 0) F sc_law_draw (fun vs H Q E h => ?_) (fun cdv A outer s H vs Q E hr h => ?_)
  · obtain ⟨d, l, m, rfl, _⟩ := h
    rfl
  · obtain ⟨d, l, m, rfl, hm, hm2, D, q⟩ := h
    refine ⟨_, (pss_cons (ps_asg (pe_op op_add (pe_ix ix_list (pv 0) pe_int (fun _ _ => rfl)) pe_int) (pg_sub (pv 0) pe_int set_list))
      (pss_cons (ps_set (i := 2) sc_law_draw.nd rfl (.inl rfl) (pe_ix ix_list (pv 0) pe_int (fun _ _ => rfl)))
      (cutS (ps_if (pt_cmpR (op_neD hr.room.units) (pe_ix ix_list (pv 0) pe_int (fun _ _ => rfl)) (lstN pa_nil) (nomark _)) (pss_cons (ps_set (i := 2) sc_law_draw.nd rfl (.inl rfl) (pe_bm0 PySem.F.plainAttrs_list PySem.F.slot_list_pop PySem.F.type_list_pop mt_pop (pe_ix ix_list (pv 0) pe_int (fun _ _ => rfl))))
      (pss_one (ps_if (pt_cmpR op_ge (pv 2) (pe_op op_pow pe_int pe_int) (nomark _)) (pss_cons (ps_expr (pe_bm PySem.F.plainAttrs_list PySem.F.slot_list_append PySem.F.type_list_append mt_append (pe_ix ix_list (pv 0) pe_int (fun _ _ => rfl)) (pa_cons (pe_op op_fdivW (pv 2) (pv 1)) pa_nil)))
      (pss_one (ps_ret (pe_op op_mod (pv 2) (pv 1))))) pss_nil))) pss_nil)
      (pss_cons (ps_set (i := 3) sc_law_draw.nd rfl (.inl rfl) (pe_op op_mod (pe_op op_mul (pe_op op_add (pe_op op_add (pe_op op_mod (pv 2) pe_int) (pe_op op_mul pe_int (pe_ix ix_list (pv 0) pe_int (fun _ _ => rfl)))) pe_int) pe_int) pe_int))
      (pss_cons (ps_set (i := 3) sc_law_draw.nd rfl (.inl rfl) (pe_op op_mod (pe_op op_add (pe_op op_add (pe_op op_mul (pv 3) (pv 3)) (pe_op op_mul pe_int (pe_ix ix_list (pv 0) pe_int (fun _ _ => rfl)))) pe_int) pe_int))
      (pss_one (ps_ret (pe_op op_mod (pe_op op_fdiv (pe_op op_mod (pe_op op_add (pe_op op_mul (pv 3) (pv 3)) pe_int) pe_int) pe_int) (pv 1))))))))), ?_⟩
    obtain ⟨ns, s0, c, h1, h2, h3⟩ := D.ex
    have dl := D.ne
    -- deck[2] = deck[2] + 1
    refine ⟨.ref d, rfl, d, _, 2, .int c, rfl, rfl, .inl (.inl h1), rfl, c, 1, rfl, rfl, .ref d, rfl, d, _, 2, 2, rfl, rfl, h1, rfl, ?_⟩
    generalize hU : upd H d (.lst ([V.ref l, .int s0, .int c].set 2 ((fun i j => V.int (i + j)) c 1))) = H1
    have g1 : H1 d = some (.lst [.ref l, .int s0, .int (c + 1)]) := by rw [← hU]; exact upd_same
    have g2 : H1 l = some (.lst (ns.map V.int)) := by rw [← hU, upd_ne dl.symm]; exact h2
    have g3 : ∀ b o, b ≠ d → b ≠ l → H b = some o → H1 b = some o := fun b o e1 _ e2 => by rw [← hU, upd_ne e1]; exact e2
    clear hU
    have fin : ∀ (ms : List Int) (H2 : Hp), ms.length ≤ 63 → H2 d = some (.lst [.ref l, .int s0, .int (c + 1)]) → H2 l = some (.lst (ms.map V.int)) →
        (∀ b o, b ≠ d → b ≠ l → H b = some o → Keep (H2 b) o) → Step d l H H2 := fun ms H2 e1 e2 e3 e4 => ⟨⟨dl, ms, s0, c + 1, e2, e3, e1⟩, fun b o e => by
          obtain ⟨n1, n2, n3⟩ := hide_at e
          rw [hide_ne n1 n2]
          exact e4 b o n1 n2 n3⟩
    -- cell = deck[1]
    refine ⟨.ref d, rfl, d, _, 1, .int s0, rfl, rfl, .inl (.inl g1), rfl, ?_⟩
    refine ⟨fun σ' H' => ∃ (cell : Int) (y : Option V) (ms : List Int), σ' = [some (.ref d), some (.int m), some (.int cell), y] ∧ ms.length ≤ 63 ∧
      H' d = some (.lst [.ref l, .int s0, .int (c + 1)]) ∧ H' l = some (.lst (ms.map V.int)) ∧ (∀ b o, b ≠ d → b ≠ l → H b = some o → Keep (H' b) o), ?_, ?_⟩
    · -- if deck[0] != []
      refine ⟨.ref d, rfl, d, _, 0, .ref l, rfl, rfl, .inl (.inl g1), rfl, Nat.zero_le _, fun pe HE ne se ge => ?_⟩
      have h1E := se _ _ g1
      have h2E := se _ _ g2
      have h3E : ∀ b o, b ≠ d → b ≠ l → H b = some o → Keep (HE b) o := fun b o e1 e2 e3 => se _ _ (g3 b o e1 e2 e3)
      refine ⟨_, _, .lst (.inl (.inl h2E)) (dpInts ns), .lst (.inl (.inl ge)) .nil, shapedInts ns, rfl, _, rfl, ?_⟩
      show if (!PyData.eqv (.list (ns.map PyData.int)) (.list [])) = true then _ else _
      rw [eqvNil]
      refine ite2 (fun e => ?_) (fun e => ?_)
      · have h0 : ns ≠ [] := fun z => by subst z; exact absurd e (by decide)
        obtain ⟨z, hz⟩ : ∃ z, ns[ns.length - 1]? = some z := by
          have : ns.length - 1 < ns.length := by cases ns with
            | nil => exact absurd rfl h0
            | cons a b => simp
          exact ⟨_, List.getElem?_eq_getElem this⟩
        -- cell = deck[0].pop()
        refine ⟨.ref d, rfl, d, _, 0, .ref l, rfl, rfl, .inl (.inl h1E), rfl, .inl ⟨rfl, _, .inl (.inl h2E)⟩, l, _, .int z, rfl, rfl, h2E, ?_, ?_⟩
        · rw [List.length_map, List.getElem?_map, hz]
          rfl
        have k1 : ns.dropLast.length < 63 := by
          rw [List.length_dropLast]
          have : ns.length ≠ 0 := fun z => h0 (List.length_eq_zero_iff.mp z)
          omega
        generalize hU : upd HE l (.lst (ns.map V.int).dropLast) = H2
        have u1 : H2 d = some (.lst [.ref l, .int s0, .int (c + 1)]) := by rw [← hU, upd_ne dl]; exact h1E
        have u2 : H2 l = some (.lst (ns.dropLast.map V.int)) := by rw [← hU, upd_same, dropLast_map]
        have u3 : ∀ b o, b ≠ d → b ≠ l → H b = some o → Keep (H2 b) o := fun b o e1 e2 e3 => by rw [← hU, upd_ne e2]; exact h3E b o e1 e2 e3
        clear hU
        refine ⟨.int z, rfl, _, _, rfl, rfl, ⟨by decide, by decide, by decide⟩, _, _, rfl, rfl, _, rfl, ite2 (fun e2 => ?_) (fun e2 => ?_)⟩
        · -- deck[0].append(cell // most); return cell % most
          refine ⟨.ref d, rfl, d, _, 0, .ref l, rfl, rfl, .inl (.inl u1), rfl, .inl ⟨rfl, _, .inl (.inl u2)⟩, .int z, rfl, .int m, rfl, _, _, rfl, rfl,
            wide_div (b := 64) hm (by omega) (by decide) (by decide), l, _, _, rfl, rfl, u2, ?_, ?_⟩
          · rw [List.length_map]
            exact small1000 (by omega)
          refine ⟨.int z, rfl, .int m, rfl, _, _, rfl, rfl, hm, q _ _ (Int.emod_nonneg _ (by omega)) (Int.emod_lt_of_pos _ hm) (fin (ns.dropLast ++ [z / m]) _ ?_ ?_ ?_ ?_)⟩
          · rw [List.length_append]; show _ + 1 ≤ 63; omega
          · rw [upd_ne dl]; exact u1
          · rw [upd_same, List.map_append]; rfl
          · intro b o e1 e2 e3
            rw [upd_ne e2]; exact u3 b o e1 e2 e3
        · exact ⟨z, none, ns.dropLast, rfl, by omega, u1, u2, u3⟩
      · exact ⟨s0, none, ns, rfl, h3, h1E, h2E, h3E⟩
    · rintro σ' H' ⟨cell, y, ms, rfl, e1, e2, e3, e4⟩
      have S := fin ms H' e1 e2 e3 e4
      have eD : SqL K H' d [.ref l, .int s0, .int (c + 1)] := .inl (.inl e2)
      refine ⟨_, rfl, _, _, rfl, rfl, (by show (0 : Int) < 2147483629; decide), .ref d, rfl, d, _, 2, .int (c + 1), rfl, rfl, eD, rfl, _, _, rfl, rfl, .inl (by decide),
        _, _, rfl, rfl, _, _, rfl, rfl, _, _, rfl, rfl, .inr (by decide), _, _, rfl, rfl, (by show (0 : Int) < 2147483647; decide), ?_⟩
      refine ⟨_, rfl, _, rfl, _, _, rfl, rfl, .inl (modlt (by decide) (by decide)), .ref d, rfl, d, _, 2, .int (c + 1), rfl, rfl, eD, rfl, _, _, rfl, rfl, .inl (by decide),
        _, _, rfl, rfl, _, _, rfl, rfl, _, _, rfl, rfl, (by show (0 : Int) < 2147483587; decide), ?_⟩
      refine ⟨_, rfl, _, rfl, _, _, rfl, rfl, .inl (modlt (by decide) (by decide)), _, _, rfl, rfl, _, _, rfl, rfl, (by show (0 : Int) < 2147483563; decide),
        _, _, rfl, rfl, ⟨by decide, by decide⟩, .int m, rfl, _, _, rfl, rfl, hm, q _ _ (Int.emod_nonneg _ (by omega)) (Int.emod_lt_of_pos _ hm) S⟩

end

section
variable {P : Program} {w : World} {K : PySem.W.Frag} {mg : Str → Option Value} {base : Heap}

theorem ok_law_less {f : Addr} {fd : FuncData} (F : Fun K "_law_less" "_law_less" s_law_less f fd) (T : Bt mg) :
    FnG P w K mg base CX0 1 f fd ["_law_one", "_law_other"] (spLess K) := by
  refine okG (k := 0) F sc_law_less (fun vs H Q E h => ?_) (fun cdv A outer s H vs Q E hr h => ?_)
  · obtain ⟨u, v, p, q, rfl, _⟩ := h
    rfl
  · obtain ⟨_, _, p, p2, rfl, ⟨a, rfl, ha⟩, ⟨b, rfl, hb⟩, q⟩ := h
    refine ⟨_, (pss_one (ps_ret (tupN (pa_cons (pe_op op_sub (pe_ix ix_tup (pv 0) pe_int (fun _ _ => rfl)) (pe_ix ix_tup (pv 1) pe_int (fun _ _ => rfl))) (pa_cons (pe_op op_sub (pe_ix ix_tup (pv 0) pe_int (fun _ _ => rfl)) (pe_ix ix_tup (pv 1) pe_int (fun _ _ => rfl))) pa_nil))))), ?_⟩
    exact ⟨_, rfl, a, _, 0, _, rfl, rfl, ha, rfl, _, rfl, b, _, 0, _, rfl, rfl, hb, rfl, _, _, rfl, rfl, _, rfl, a, _, 1, _, rfl, rfl, ha, rfl, _, rfl, b, _, 1, _, rfl, rfl, hb, rfl, _, _, rfl, rfl, (by show 2 ≤ sizeLine; decide),
      fun p6 H6 n6 s6 g6 => q _ _ s6 ⟨p6, rfl, .inl (.inl g6)⟩⟩

theorem okgreatest_parting {f : Addr} {fd : FuncData} (F : Fun K "greatest_parting" "greatest_parting" sgreatest_parting f fd) (T : Bt mg) :
    FnG P w K mg base CX0 1 f fd ["n", "m"] spGp := by
  refine okG (k := 0) F scgreatest_parting (fun vs H Q E h => ?_) (fun cdv A outer s H vs Q E hr h => ?_)
  · obtain ⟨n, m, rfl, _⟩ := h
    rfl
  · obtain ⟨n, m, rfl, q⟩ := h
    refine ⟨_, (pss_cons (ps_par (i := 0) (j := 1) (by rfl) scgreatest_parting.nd rfl rfl (by decide) rfl rfl (pa_cons (pe_callB call_abs (by rfl) T.abs (by decide +kernel) (pa_cons (pv 0) pa_nil)) (pa_cons (pe_callB call_abs (by rfl) T.abs (by decide +kernel) (pa_cons (pv 1) pa_nil)) pa_nil)) (by rfl))
      (pss_cons (ps_while PassesOwn.never (pt_cmpR op_gt (pv 1) pe_int (nomark _)) (pss_one (ps_par (i := 0) (j := 1) (by rfl) scgreatest_parting.nd rfl rfl (by decide) rfl rfl (pa_cons (pv 1) (pa_cons (pe_op op_mod (pv 0) (pv 1)) pa_nil)) (by rfl))))
      (pss_one (ps_ret (pv 0))))), ?_⟩
    refine ⟨_, rfl, _, rfl, _, rfl, _, rfl, _, _, rfl, ?_⟩
    have e1 : (if n < 0 then -n else n) = (n.natAbs : Int) := by split <;> omega
    have e2 : (if m < 0 then -m else m) = (m.natAbs : Int) := by split <;> omega
    refine while_by (fun σ H' => ∃ a b : Nat, σ = [some (.int a), some (.int b)] ∧ H' = H ∧ Nat.gcd a b = Int.gcd n m) (fun σ _ => match σ with | [_, some (.int b)] => b.toNat | _ => 0) ?_ ?_ ?_
    · refine ⟨n.natAbs, m.natAbs, ?_, rfl, rfl⟩
      show [some (V.int (if n < 0 then -n else n)), some (.int (if m < 0 then -m else m))] = _
      rw [e1, e2]
    · rintro σ H' ⟨a, b, rfl, rfl, hg⟩
      refine ⟨_, rfl, _, _, rfl, rfl, _, rfl, ite2 (fun e => ?_) (fun e => ?_)⟩
      · have hb : 0 < b := by have := of_decide_eq_true e; omega
        refine ⟨_, rfl, _, rfl, _, rfl, _, _, rfl, rfl, (by omega), _, _, rfl, ⟨b, a % b, rfl, rfl, ?_⟩, ?_⟩
        · rw [← hg, Nat.gcd_comm b, ← Nat.gcd_rec, Nat.gcd_comm]
        · show ((a : Int) % (b : Int)).toNat < (b : Int).toNat
          have := Nat.mod_lt a hb
          omega
      · have hb : b = 0 := by
          have : ¬ (0 : Int) < b := fun z => e (decide_eq_true z)
          omega
        subst hb
        rw [Nat.gcd_zero_right] at hg
        rw [← hg] at q
        exact ⟨_, rfl, q⟩
    · rintro σ H1 Q1 Q2 hq ⟨v, h1, i, j, h2, h3, k, h4, h5⟩
      exact ⟨v, h1, i, j, h2, h3, k, h4, hq _ _ h5⟩

theorem okstep_of {f : Addr} {fd : FuncData} (F : Fun K "step_of" "step_of" sstep_of f fd) (T : Bt mg) :
    FnG P w K mg base CX0 1 f fd ["line"] (spStep K) := by
  refine okG (k := 0) F scstep_of (fun vs H Q E h => ?_) (fun cdv A outer s H vs Q E hr h => ?_)
  · obtain ⟨v, l, rfl, _⟩ := h
    rfl
  · obtain ⟨_, l, rfl, ⟨a, _, _, rfl, hS, ⟨b, rfl, hb⟩, ⟨c, rfl, hc⟩⟩, q⟩ := h
    refine ⟨_, (pss_cons (ps_asg (pv 0) (pg_tup (by rfl) (pgs_cons (pg_tup (by rfl) (pgs_cons (pg_name (i := 1) scstep_of.nd rfl (.inl rfl)) (pgs_cons (pg_name (i := 2) scstep_of.nd rfl (.inl rfl)) pgs_nil))) (pgs_cons (pg_tup (by rfl) (pgs_cons (pg_name (i := 3) scstep_of.nd rfl (.inl rfl)) (pgs_cons (pg_name (i := 4) scstep_of.nd rfl (.inl rfl)) pgs_nil))) pgs_nil))))
      (pss_one (ps_ret (tupN (pa_cons (pe_op op_sub (pv 3) (pv 1)) (pa_cons (pe_op op_sub (pv 4) (pv 2)) pa_nil)))))), ?_⟩
    refine ⟨_, rfl, a, _, rfl, hS, rfl, _, _, rfl, b, _, rfl, hb, rfl, _, _, rfl, _, _, rfl, rfl, _, _, rfl, c, _, rfl, hc, rfl, _, _, rfl, _, _, rfl, rfl, rfl, ?_⟩
    exact ⟨_, rfl, _, rfl, _, _, rfl, rfl, _, rfl, _, rfl, _, _, rfl, rfl, (by show 2 ≤ sizeLine; decide), fun p H1 n s e => q _ _ s ⟨p, rfl, .inl (.inl e)⟩⟩

theorem ok_law_turn {f : Addr} {fd : FuncData} (F : Fun K "_law_turn" "_law_turn" s_law_turn f fd) (T : Bt mg) :
    FnG P w K mg base CX0 1 f fd ["_law_one", "_law_other"] (spTurn K) := by
  refine okG (k := 0) F sc_law_turn (fun vs H Q E h => ?_) (fun cdv A outer s H vs Q E hr h => ?_)
  · obtain ⟨u, v, p, q, rfl, _⟩ := h
    rfl
  · obtain ⟨_, _, p, p2, rfl, ⟨a, rfl, ha⟩, ⟨b, rfl, hb⟩, bd, q⟩ := h
    refine ⟨_, (pss_one (ps_ret (pe_op op_sub (pe_op op_mul (pe_ix ix_tup (pv 0) pe_int (fun _ _ => rfl)) (pe_ix ix_tup (pv 1) pe_int (fun _ _ => rfl))) (pe_op op_mul (pe_ix ix_tup (pv 0) pe_int (fun _ _ => rfl)) (pe_ix ix_tup (pv 1) pe_int (fun _ _ => rfl)))))), ?_⟩
    obtain ⟨⟨x1, x2⟩, y1, y2⟩ := bd
    exact ⟨_, rfl, a, _, 0, _, rfl, rfl, ha, rfl, _, rfl, b, _, 1, _, rfl, rfl, hb, rfl, _, _, rfl, rfl, .inl (by omega), _, rfl, a, _, 1, _, rfl, rfl, ha, rfl, _, rfl, b, _, 0, _, rfl, rfl, hb, rfl, _, _, rfl, rfl, .inl (by omega), _, _, rfl, rfl, q⟩

end
end Cl

set_option maxHeartbeats 0
namespace Cl
open PySem PySem.Spec PyProof.Rows L2
open GxR (TabB TabG)


def crn (g : Int) (p : Pt) : Pt := (nr p.1 g, nr p.2 g)
def crnS (g : Int) (s : S3) : Pt := (nr s.1 (s.2.2 * g), nr s.2.1 (s.2.2 * g))
theorem crnS_one (g : Int) (p : Pt) : crnS g (one3 p) = crn g p := by
  unfold crnS crn one3
  simp
def endRow (g : Int) (ls : List Ln) (k : Nat) : List Rw := match ls[k]? with
  | some l => [(crn g l.1, ("end", (k : Int), 0)), (crn g l.2, ("end", (k : Int), 1))]
  | none => []
def rowS (g : Int) (k l : Nat) (ss : List S3) : List Rw := match ss with
  | [s] => [(crnS g s, ("cross", (k : Int), (l : Int)))]
  | _ => []
def crossRow (g : Int) (ls : List Ln) (k l : Nat) : List Rw := match ls[k]?, ls[l]? with
  | some a, some b => rowS g k l (cmn a b)
  | _, _ => []
def ends (g : Int) (ls : List Ln) (n : Nat) : List Rw := (List.range n).flatMap (endRow g ls)
def prs (n : Nat) : List (Nat × Nat) := (List.range n).flatMap fun k => (List.range (n - (k + 1))).map fun j => (k, k + 1 + j)
def crosses (g : Int) (ls : List Ln) (ps : List (Nat × Nat)) : List Rw := ps.flatMap fun p => crossRow g ls p.1 p.2
def AtKL (K : PySem.W.Frag) (H : Hp) (v : V) (p : Nat × Nat) : Prop := ∃ a, v = .ref a ∧ SqT K H a [.int p.1, .int p.2]
theorem AtKL.same {K : PySem.W.Frag} {H H' : Hp} {v : V} {p : Nat × Nat} (h : AtKL K H v p) (s : Same H H') : AtKL K H' v p := by
  obtain ⟨a, e, h⟩ := h
  exact ⟨a, e, seT s h⟩
theorem AtRw.upd {H : Hp} {M : Addr} {xs : List V} {o : HO} {v : V} {r : Rw} (h : AtRw H v r) (e : H M = some (.lst xs)) : AtRw (L2.upd H M o) v r := by
  obtain ⟨p, c, w, rfl, h1, h2, h3⟩ := h
  exact ⟨p, c, w, rfl, by rw [upd_ne (ne_of h1 e fun z => nomatch z)]; exact h1, by rw [upd_ne (ne_of h2 e fun z => nomatch z)]; exact h2, by rw [upd_ne (ne_of h3 e fun z => nomatch z)]; exact h3⟩
theorem AtKL.upd {K : PySem.W.Frag} {H : Hp} {M : Addr} {xs : List V} {o : HO} {v : V} {r : Nat × Nat} (h : AtKL K H v r) (e : H M = some (.lst xs)) : AtKL K (L2.upd H M o) v r := by
  obtain ⟨a, rfl, h⟩ := h
  exact ⟨a, rfl, updT e h⟩
def AtRws (H : Hp) (v : V) (R : List Rw) : Prop := ∃ a vs, v = .ref a ∧ H a = some (.lst vs) ∧ AllAt (AtRw H) vs R
theorem AtRws.same {H H' : Hp} {v : V} {R : List Rw} (h : AtRws H v R) (s : Same H H') : AtRws H' v R := by
  obtain ⟨a, vs, e, h1, h2⟩ := h
  exact ⟨a, vs, e, s _ _ h1, h2.map fun _ _ z => z.same s⟩
def spCornerAtN (K : PySem.W.Frag) : Sp := fun vs H Q _ => ∃ (g : Int) (v : V) (s : S3), vs = [.int g, v] ∧ At3 K H v s ∧ 0 < g ∧ g < 2 ^ 60 ∧ 0 < s.2.2 ∧ s.2.2 * g < 2 ^ 60 ∧
  New H (.tup [.int (nr s.1 (s.2.2 * g)), .int (nr s.2.1 (s.2.2 * g))]) Q
def spPairs (K : PySem.W.Frag) : Sp := fun vs H Q _ => ∃ n : Nat, vs = [.int n] ∧ n ≤ 12 ∧ ∀ a H' vs, H a = none → Same H H' → H' a = some (.lst vs) → AllAt (AtKL K H') vs (prs n) → Q (.ref a) H'
def Lns (K : PySem.W.Frag) (H : Hp) (g : Int) (v : V) (ls : List Ln) : Prop := (0 < g ∧ g ≤ 1000) ∧ AtT K H v ls ∧ ls.length ≤ 12 ∧ ∀ r ∈ ls, GoodLn 2000000 r
def spEnds (K : PySem.W.Frag) : Sp := fun vs H Q _ => ∃ g v ls, vs = [.int g, v] ∧ Lns K H g v ls ∧ ∀ u H', Same H H' → AtRws H' u (ends g ls ls.length) → Q u H'
def spCrosses (K : PySem.W.Frag) : Sp := fun vs H Q _ => ∃ g v ls, vs = [.int g, v] ∧ Lns K H g v ls ∧ ∀ u H', Same H H' → AtRws H' u (crosses g ls (prs ls.length)) → Q u H'
theorem AtT.same {K : PySem.W.Frag} {H H' : Hp} {v : V} {ls : List Ln} (h : AtT K H v ls) (s : Same H H') : AtT K H' v ls := by
  obtain ⟨a, vs, e, h1, h2⟩ := h
  exact ⟨a, vs, e, seT s h1, h2.map fun _ _ z => z.same s⟩
theorem Lns.same {K : PySem.W.Frag} {H H' : Hp} {g : Int} {v : V} {ls : List Ln} (h : Lns K H g v ls) (s : Same H H') : Lns K H' g v ls := ⟨h.1, h.2.1.same s, h.2.2.1, h.2.2.2⟩
theorem ends_len (g : Int) (ls : List Ln) : ∀ n, (ends g ls n).length ≤ 2 * n
  | 0 => Nat.le_refl _
  | n + 1 => by
    have := ends_len g ls n
    unfold ends at *
    rw [List.range_succ, List.flatMap_append, List.length_append]
    have h : ([n].flatMap (endRow g ls)).length ≤ 2 := by
      rw [List.flatMap_singleton]
      unfold endRow
      split <;> simp
    omega
theorem rowS_len (g : Int) (k l : Nat) (ss : List S3) : (rowS g k l ss).length ≤ 1 := by
  unfold rowS
  split <;> simp
theorem crossRow_len (g : Int) (ls : List Ln) (k l : Nat) : (crossRow g ls k l).length ≤ 1 := by
  unfold crossRow
  split
  · exact rowS_len ..
  · simp
theorem crosses_len (g : Int) (ls : List Ln) : ∀ ps : List (Nat × Nat), (crosses g ls ps).length ≤ ps.length
  | [] => Nat.le_refl _
  | p :: ps => by
    have := crosses_len g ls ps
    have h := crossRow_len g ls p.1 p.2
    unfold crosses at *
    rw [List.flatMap_cons, List.length_append, List.length_cons]
    omega
theorem prs_pre_len (n : Nat) : ∀ i : Nat, ((List.range i).flatMap fun k => (List.range (n - (k + 1))).map fun j => (k, k + 1 + j)).length ≤ i * n
  | 0 => by simp
  | i + 1 => by
    have := prs_pre_len n i
    rw [List.range_succ, List.flatMap_append, List.flatMap_singleton, List.length_append, List.length_map, List.length_range, Nat.add_mul]
    omega
theorem prs_len {n : Nat} (h : n ≤ 12) : (prs n).length ≤ 66 := by
  have : ∀ m : Fin 13, (prs m.1).length ≤ 66 := by decide +kernel
  exact this ⟨n, by omega⟩
theorem prs_mem {n : Nat} {p : Nat × Nat} (h : p ∈ prs n) : p.1 < p.2 ∧ p.2 < n := by
  unfold prs at h
  obtain ⟨k, hk, h⟩ := List.mem_flatMap.mp h
  obtain ⟨j, hj, rfl⟩ := List.mem_map.mp h
  have h1 := List.mem_range.mp hk
  have h2 := List.mem_range.mp hj
  exact ⟨by show k < k + 1 + j; omega, by show k + 1 + j < n; omega⟩
theorem AllAt.lone {α : Type} {R : V → α → Prop} {vs : List V} {xs : List α} (h : AllAt R vs xs) (l : vs.length = 1) : ∃ u t, vs = [u] ∧ xs = [t] ∧ R u t := by
  cases h with
  | nil => cases l
  | cons h1 h2 =>
    cases h2 with
    | nil => exact ⟨_, _, rfl, rfl, h1⟩
    | cons _ _ => simp at l
theorem rowS_not {g : Int} {k l : Nat} {ss : List S3} (h : ss.length ≠ 1) : rowS g k l ss = [] := by
  unfold rowS
  split
  · exact absurd rfl h
  · rfl
theorem genR {lo : Int} {n : Nat} {H0 : Hp} {Qd : Hp → Prop} {BODY : V → Hp → (Hp → Prop) → Prop} (Pv : Nat → Hp → Prop) (h0 : Pv 0 H0)
    (hs : ∀ i H, i < n → Pv i H → BODY (.int (lo + i)) H (Pv (i + 1))) (hd : ∀ H, Pv n H → Qd H) :
    ∃ W : Nat → Nat → Hp → Prop, (∃ m, W 0 m H0) ∧ ∀ i m H, W i m H → ((Itr lo n).stop i H ∧ Qd H) ∨ ((Itr lo n).go i H ∧ ∃ Nx : Hp → Prop, (∀ H', Nx H' → ∃ m', m' < m ∧ W (i + 1) m' H') ∧ ∀ x H', (Itr lo n).yld i H x H' → BODY x H' Nx) := by
  refine ⟨fun i m H => m = n - i ∧ i ≤ n ∧ Pv i H, ⟨n, by simp, Nat.zero_le _, h0⟩, ?_⟩
  rintro i m H ⟨rfl, hi, p⟩
  by_cases hlt : i < n
  · refine .inr ⟨hlt, Pv (i + 1), fun H' p' => ⟨n - (i + 1), by omega, rfl, hlt, p'⟩, fun x H' y => ?_⟩
    obtain ⟨e, y⟩ := y
    subst e y
    exact hs i _ hlt p
  · have e : i = n := by omega
    subst e
    exact .inl ⟨Nat.le_refl _, hd H p⟩
/-- bounds of what two such lines have in common -/
theorem good_L {r : Ln} (h : GoodLn 2000000 r) : BdL r := by
  obtain ⟨h1, h2, _⟩ := h
  unfold BdN at h1 h2
  exact ⟨by unfold BdC; omega, by unfold BdC; omega⟩
theorem mul_b {a b : Int} (h1 : -4000000 ≤ a) (h2 : a ≤ 4000000) (h3 : -4000000 ≤ b) (h4 : b ≤ 4000000) : -16000000000000 ≤ a * b ∧ a * b ≤ 16000000000000 := by
  have e : (a * b).natAbs ≤ 4000000 * 4000000 := by
    rw [Int.natAbs_mul]
    exact Nat.mul_le_mul (by omega) (by omega)
  omega
theorem cmn_den {l r : Ln} (hl : GoodLn 2000000 l) (hr : GoodLn 2000000 r) : ∀ s ∈ cmn l r, 0 < s.2.2 ∧ s.2.2 ≤ 2 ^ 46 := by
  intro s hs
  unfold cmn at hs
  split at hs
  · rename_i h0
    unfold acr at hs
    simp only at hs
    split at hs
    · have hp := klm_pos l r h0
      rw [List.mem_singleton.mp hs]
      obtain ⟨k, _, _, _, _, h2, h3⟩ := spot_pos (n := (klm l r).2.2 * l.1.1 + (klm l r).1 * (l.2.1 - l.1.1)) (m := (klm l r).2.2 * l.1.2 + (klm l r).1 * (l.2.2 - l.1.2)) hp
      refine ⟨h2, Int.le_trans h3 ?_⟩
      obtain ⟨a1, a2, _⟩ := hl
      obtain ⟨b1, b2, _⟩ := hr
      unfold BdN at a1 a2 b1 b2
      have m1 := mul_b (a := l.2.1 - l.1.1) (b := r.2.2 - r.1.2) (by omega) (by omega) (by omega) (by omega)
      have m2 := mul_b (a := l.2.2 - l.1.2) (b := r.2.1 - r.1.1) (by omega) (by omega) (by omega) (by omega)
      show trn (less l.2 l.1) (less r.2 r.1) * kfs l r ≤ _
      have e : trn (less l.2 l.1) (less r.2 r.1) = (l.2.1 - l.1.1) * (r.2.2 - r.1.2) - (l.2.2 - l.1.2) * (r.2.1 - r.1.1) := rfl
      unfold kfs
      split <;> omega
    · cases hs
  · split at hs
    · cases hs
    · have one : ∀ p : Pt, 0 < (one3 p).2.2 ∧ (one3 p).2.2 ≤ 2 ^ 46 := fun p => by show (0 : Int) < 1 ∧ (1 : Int) ≤ 2 ^ 46; decide
      unfold alo at hs
      split at hs
      · cases hs
      · split at hs
        · rw [List.mem_singleton.mp hs]
          exact one _
        · rcases List.mem_cons.mp hs with rfl | hs
          · exact one _
          · rw [List.mem_singleton.mp hs]
            exact one _

section
variable {P : Program} {w : World} {K : PySem.W.Frag} {mg : Str → Option Value} {base : Heap}

end
end Cl

set_option maxHeartbeats 0
namespace Cl
open PySem PySem.Spec PyProof.Rows L2
open GxR (TabB TabG)

section
variable {P : Program} {w : World} {K : PySem.W.Frag} {mg : Str → Option Value} {base : Heap}

end
end Cl

set_option maxHeartbeats 0
namespace Cl
open PySem PySem.Spec PyProof.Rows L2
open GxR (TabB TabG)


def lowN (n d : Int) : Int × Int := (n / ((Int.gcd n d : Nat) : Int), d / ((Int.gcd n d : Nat) : Int))
def spLowG (K : PySem.W.Frag) : Sp := fun vs H Q _ => ∃ n d : Int, vs = [.int n, .int d] ∧ 0 < d ∧ d < 2 ^ 200 ∧ ∀ w H', Same H H' → At2 K H' w (lowN n d) → Q w H'
/-- the share that the program tells -/
def mw (g : Int) (r : Ln) (c : Pt) : Int × Int := match sharesW g r c with
  | some (f, l) => lowN (midP f l) (midQ f l)
  | none => (0, 1)
def okW (g : Int) (r : Ln) (c : Pt) (z : Int × Int) : Prop := 0 < z.2 ∧ (0 ≤ z.1 ∧ z.1 ≤ z.2) ∧ HOc g r c z.1 z.2 ∧ z.2 ≤ 2 ^ 49
def spShareF (K : PySem.W.Frag) : Sp := fun vs H Q _ => ∃ g v r u c, vs = [.int g, v, u] ∧ AtL K H v r ∧ At2 K H u c ∧ BdW g r c ∧
  (¬ Meets g r c → ∀ H', Same H H' → Q .non H') ∧ (Meets g r c → okW g r c (mw g r c) → ∀ w H', Same H H' → At2 K H' w (mw g r c) → Q w H')
theorem mid_in {g : Int} {r : Ln} {c : Pt} {f l : Sh} (h : sharesW g r c = some (f, l)) : 0 ≤ midP f l ∧ midP f l ≤ midQ f l := by
  obtain ⟨f0, l0, fl, k⟩ := sharesW_some h
  have q0 : 0 < midQ f l := by unfold midQ; exact Int.mul_pos (by omega) l0
  have a1 : f.1 * midQ f l ≤ midP f l * f.2 := by
    unfold midP midQ
    have := Int.mul_le_mul_of_nonneg_right fl (Int.le_of_lt f0)
    have e1 : f.1 * (2 * f.2 * l.2) = f.1 * l.2 * f.2 + f.1 * l.2 * f.2 := by grind
    have e2 : (f.1 * l.2 + l.1 * f.2) * f.2 = f.1 * l.2 * f.2 + l.1 * f.2 * f.2 := by grind
    omega
  have a2 : midP f l * l.2 ≤ l.1 * midQ f l := by
    unfold midP midQ
    have := Int.mul_le_mul_of_nonneg_right fl (Int.le_of_lt l0)
    have e1 : l.1 * (2 * f.2 * l.2) = l.1 * f.2 * l.2 + l.1 * f.2 * l.2 := by grind
    have e2 : (f.1 * l.2 + l.1 * f.2) * l.2 = f.1 * l.2 * l.2 + l.1 * f.2 * l.2 := by grind
    omega
  have := (k (midP f l) (midQ f l) q0).mpr ⟨a1, a2⟩
  exact ⟨this.1, this.2.1⟩

section
variable {P : Program} {w : World} {K : PySem.W.Frag} {mg : Str → Option Value} {base : Heap}

theorem oklowest {f : Addr} {fd : FuncData} (F : Fun K "lowest" "lowest" slowest f fd) (T : Bt mg) (Dgreatest_parting : Def P w K mg base 1 "greatest_parting" ["n", "m"] spGp) :
    FnG P w K mg base CX0 2 f fd ["n", "d"] (spLowG K) := by
  refine okG (k := 1) F sclowest (fun vs H Q E h => ?_) (fun cdv A outer s H vs Q E hr h => ?_)
  · obtain ⟨n, d, rfl, _⟩ := h
    rfl
  · obtain ⟨n, d, rfl, h0, h1, q⟩ := h
    refine ⟨_, (pss_cons (ps_set (i := 2) sclowest.nd rfl (.inl rfl) (callD Dgreatest_parting (hr.mono (by decide)) (pa_cons (pv 0) (pa_cons (pv 1) pa_nil))))
      (pss_one (ps_ret (tupN (pa_cons (pe_op op_fdivW (pv 0) (pv 2)) (pa_cons (pe_op op_fdivW (pv 1) (pv 2)) pa_nil)))))), ?_⟩
    obtain ⟨k, ek, k0, k1, e1, e2, k2⟩ := low_parts (n := n) h0
    refine ⟨_, rfl, _, rfl, n, d, rfl, ?_⟩
    rw [← ek]
    refine ⟨_, rfl, _, rfl, _, _, rfl, rfl, wide_div (b := 200) k0 (by omega) (by decide) (by decide), _, rfl, _, rfl, _, _, rfl, rfl, wide_div (b := 200) k0 (by omega) (by decide) (by decide), (by show 2 ≤ sizeLine; decide), fun p H1 nn s e => ?_⟩
    subst ek
    exact q _ _ s ⟨p, rfl, .inl (.inl e)⟩

theorem okis_less {f : Addr} {fd : FuncData} (F : Fun K "is_less" "is_less" sis_less f fd) (T : Bt mg) :
    FnG P w K mg base CX0 1 f fd ["one", "other"] (spSooner K) := by
  refine okG (k := 0) F scis_less (fun vs H Q E h => ?_) (fun cdv A outer s H vs Q E hr h => ?_)
  · obtain ⟨u, v, p, q, rfl, _⟩ := h
    rfl
  · obtain ⟨_, _, p, p2, rfl, ⟨a, rfl, ha⟩, ⟨b, rfl, hb⟩, ⟨x1, x2, x3, x4⟩, ⟨y1, y2, y3, y4⟩, q⟩ := h
    refine ⟨_, (pss_one (ps_ret (pe_cmpR op_lt (pe_op op_mul (pe_ix ix_tup (pv 0) pe_int (fun _ _ => rfl)) (pe_ix ix_tup (pv 1) pe_int (fun _ _ => rfl))) (pe_op op_mul (pe_ix ix_tup (pv 1) pe_int (fun _ _ => rfl)) (pe_ix ix_tup (pv 0) pe_int (fun _ _ => rfl))) (nomark _)))), ?_⟩
    exact ⟨_, rfl, a, _, 0, _, rfl, rfl, ha, rfl, _, rfl, b, _, 1, _, rfl, rfl, hb, rfl, _, _, rfl, rfl, .inl (by omega), _, rfl, b, _, 0, _, rfl, rfl, hb, rfl, _, rfl, a, _, 1, _, rfl, rfl, ha, rfl, _, _, rfl, rfl, .inl (by omega), _, _, rfl, rfl, q⟩

theorem okgreater_of {f : Addr} {fd : FuncData} (F : Fun K "greater_of" "greater_of" sgreater_of f fd) (T : Bt mg) (Dis_less : Def P w K mg base 1 "is_less" ["one", "other"] (spSooner K)) :
    FnG P w K mg base CX0 2 f fd ["one", "other"] (spLater K later) := by
  refine okG (k := 1) F scgreater_of (fun vs H Q E h => ?_) (fun cdv A outer s H vs Q E hr h => ?_)
  · obtain ⟨u, v, p, q, rfl, _⟩ := h
    rfl
  · obtain ⟨u, v, p, p2, rfl, ha, hb, bp, bq, q⟩ := h
    refine ⟨_, (pss_one (ps_ret (pe_ifExp (pt_val (callD Dis_less (hr.mono (by decide)) (pa_cons (pv 0) (pa_cons (pv 1) pa_nil)))) (pv 1) (pv 0)))), ?_⟩
    refine ⟨_, rfl, _, rfl, u, v, p, p2, rfl, ha, hb, bp, bq, _, rfl, ite2 (fun e => ?_) (fun e => ?_)⟩
    · have e := of_decide_eq_true e
      exact ⟨_, rfl, q _ (by unfold later; rw [if_pos e]; exact hb)⟩
    · have e : ¬ _ := fun z => e (decide_eq_true z)
      exact ⟨_, rfl, q _ (by unfold later; rw [if_neg e]; exact ha)⟩

end
end Cl

set_option maxHeartbeats 0
namespace Cl
open PySem PySem.Spec PyProof.Rows L2
open GxR (TabB TabG)


def rowsP (g : Int) (ls : List Ln) : List Rw := ends g ls ls.length ++ crosses g ls (prs ls.length)
def spWants (K : PySem.W.Frag) : Sp := fun vs H Q _ => ∃ g v ls, vs = [.int g, v] ∧ Lns K H g v ls ∧ ∀ u H' L, Same H H' → AtDue K H' u L → IsDue (rowsP g ls) L → Q u H'
/-- the corners, rising -/
def IsCs (R : List Rw) (cs : List Pt) : Prop := cs.Pairwise leP ∧ cs.Nodup ∧ ∀ p, p ∈ cs ↔ ∃ r ∈ R, r.1 = p
def spCorners (K : PySem.W.Frag) : Sp := fun vs H Q _ => ∃ g v ls, vs = [.int g, v] ∧ Lns K H g v ls ∧ ∀ u H' cs, Same H H' → AtP K H' u cs → IsCs (rowsP g ls) cs → Q u H'
theorem rowsP_len {g : Int} {ls : List Ln} (h : ls.length ≤ 12) : (rowsP g ls).length ≤ 90 := by
  unfold rowsP
  have h1 := ends_len g ls ls.length
  have h2 := crosses_len g ls (prs ls.length)
  have h3 := prs_len h
  rw [List.length_append]
  omega
theorem AtRw.upd2 {H : Hp} {M : Addr} {o : HO} {v : V} {r : Rw} (h : AtRw H v r) (n : ∀ xs, H M ≠ some (.tup xs)) : AtRw (L2.upd H M o) v r := by
  obtain ⟨p, c, w, rfl, h1, h2, h3⟩ := h
  have k : ∀ {a : Addr} {xs : List V}, H a = some (.tup xs) → (L2.upd H M o) a = some (.tup xs) := fun {a xs} e => by
    rw [upd_ne (fun z => n xs (by rw [← z]; exact e))]
    exact e
  exact ⟨p, c, w, rfl, k h1, k h2, k h3⟩
theorem AtD.upd {K : PySem.W.Frag} {H : Hp} {M : Addr} {xs : List V} {o : HO} {v : V} {d : Pt × List Wt} (h : AtD K H v d) (e : H M = some (.lst xs)) : AtD K (L2.upd H M o) v d := by
  obtain ⟨a, u, b, ws, rfl, h1, h2, h3, h4⟩ := h
  exact ⟨a, u, b, ws, rfl, updT e h1, At2.upd h2 e, updT e h3, h4.map fun _ _ ⟨c, z, hc⟩ => ⟨c, z, updT e hc⟩⟩
theorem IsDue.cs {R : List Rw} {L : List (Pt × List Wt)} (h : IsDue R L) : IsCs R (L.map (·.1)) := ⟨h.srt, h.nd, h.mem⟩

section
variable {P : Program} {w : World} {K : PySem.W.Frag} {mg : Str → Option Value} {base : Heap}

end
end Cl

set_option maxHeartbeats 0
namespace Cl
open PySem PySem.Spec PyProof.Rows L2
open GxR (TabB TabG)


theorem IsDue.len {R : List Rw} {L : List (Pt × List Wt)} (h : IsDue R L) : L.length ≤ R.length := by
  have h1 : (L.map (·.1)).length ≤ (R.map (·.1)).length := List.Nodup.length_le_of_subset h.nd fun p hp => by
    obtain ⟨r, hr, z⟩ := (h.mem p).mp hp
    exact List.mem_map.mpr ⟨r, hr, z⟩
  simpa using h1
/-- the list L, which is newer than H, takes what is handed in there -/
def Grows (H Hx : Hp) (pd : Addr) (R : List Rw) (r : Rw) (L : Addr) (vs : List V) (Hz : Hp) : Prop := vs.length ≤ R.length ∧ Hz L = some (.lst vs) ∧ Same H Hz ∧ (∀ b xs, Hx b = some (.tup xs) → Hz b = some (.tup xs)) ∧
  ∀ Hw w, Same Hz Hw → AtW Hw w r.2 → Hw L = some (.lst vs) ∧ Same H (upd Hw L (.lst (vs ++ [w]))) ∧ ∃ E', GrpAt H pd (R ++ [r]) E' (upd Hw L (.lst (vs ++ [w])))
theorem grp_step {H Hx Hy : Hp} {pd P2 c : Addr} {R : List Rw} {E : List (Pt × Addr)} {r : Rw} (nd : H pd = none) (t : Same H Hx) (G : GrpAt H pd R E Hx) (n5 : Hx P2 = none) (s5 : Same Hx Hy) (g5 : Hy P2 = some (.lst []))
    (hc : Hx c = some (.tup [.int r.1.1, .int r.1.2])) (len : R.length ≤ 200) :
    Hy pd = some (.dT (kvO E)) ∧ Hy c = some (.tup ((pkey r.1).map kV)) ∧ (kvO E).length < sizeLine ∧ (∀ v, valV (kvO E) (pkey r.1) = some v → ∃ L us, v = .ref L ∧ Grows H Hx pd R r L us Hy) ∧
      (valV (kvO E) (pkey r.1) = none → Grows H Hx pd R r P2 [] (upd Hy pd (.dT (putK (kvO E) (pkey r.1) (.ref P2))))) := by
  have G5 := G.same s5
  have lE := G.len
  refine ⟨G5.dict, s5 _ _ hc, by unfold kvO; rw [List.length_map]; exact small1000 (by omega), fun v hv => ?_, fun hn => ?_⟩
  · obtain ⟨e, he, e1, rfl⟩ := val_kv hv
    obtain ⟨m1, vs, m2, m3⟩ := G5.lst e he
    have lw := wsOf_len R e.1
    refine ⟨_, vs, rfl, by rw [m3.length]; exact lw, m2, t.trans s5, fun b xs e => s5 _ _ e, fun Hw w sw hw => ?_⟩
    obtain ⟨L, vs', e3, b1, b2, b3, b4⟩ := (G5.same sw).there (r := r) (w := w) hv hw
    cases e3
    have e4 : vs' = vs := by
      have h1 := sw _ _ m2
      have h2 : Hw e.2 = some (.lst vs) := h1
      rw [h2] at b2
      exact (HO.lst.inj (Option.some.inj b2)).symm
    subst e4
    exact ⟨b2, (t.trans (s5.trans sw)).upNo b1, E, b4⟩
  · have nE : ∀ e ∈ E, e.2 ≠ P2 := fun e he => by obtain ⟨_, vs, b1, _⟩ := G.lst e he; exact ne_of_none b1 n5
    have no2 : NotOld H P2 := notOld t n5
    have sz : Same H (upd Hy pd (.dT (putK (kvO E) (pkey r.1) (.ref P2)))) := (t.trans s5).upN nd
    refine ⟨Nat.zero_le _, ?_, sz, fun b xs e => by rw [upd_ne (ne_of (s5 _ _ e) G5.dict fun z => nomatch z)]; exact s5 _ _ e, fun Hw w sw hw => ?_⟩
    · rw [upd_ne (ne_of g5 G5.dict fun z => nomatch z)]
      exact g5
    · obtain ⟨hP, G6⟩ := G5.fresh (r := r) (w := w) hn no2 nE g5 sw hw
      exact ⟨hP, (sz.trans sw).upNo no2, _, G6⟩
def rowsL (g : Int) (ls : List Ln) (n : Nat) : List Rw := (List.range n).flatMap fun k => endRow g ls k ++ (List.range k).flatMap fun l => crossRow g ls l k
theorem rowsL_len (g : Int) (ls : List Ln) : ∀ n : Nat, (rowsL g ls n).length ≤ n * (2 + n)
  | 0 => by simp [rowsL]
  | n + 1 => by
    have ih := rowsL_len g ls n
    have h1 : (endRow g ls n).length ≤ 2 := by
      unfold endRow
      split <;> simp
    have h2 : ∀ m : Nat, ((List.range m).flatMap fun l => crossRow g ls l n).length ≤ m := fun m => by
      induction m with
      | zero => simp
      | succ m ih =>
        have := crossRow_len g ls m n
        rw [List.range_succ, List.flatMap_append, List.flatMap_singleton, List.length_append]
        omega
    have h3 := h2 n
    have e : rowsL g ls (n + 1) = rowsL g ls n ++ (endRow g ls n ++ (List.range n).flatMap fun l => crossRow g ls l n) := by
      unfold rowsL
      rw [List.range_succ, List.flatMap_append, List.flatMap_singleton]
    rw [e, List.length_append, List.length_append]
    have e2 : (n + 1) * (2 + (n + 1)) = n * (2 + n) + (2 * n + 3) := by
      simp only [Nat.add_mul, Nat.mul_add]
      omega
    rw [e2]
    omega
theorem rowsL_succ (g : Int) (ls : List Ln) (n : Nat) : rowsL g ls (n + 1) = rowsL g ls n ++ (endRow g ls n ++ (List.range n).flatMap fun l => crossRow g ls l n) := by
  unfold rowsL
  rw [List.range_succ, List.flatMap_append, List.flatMap_singleton]
theorem crossCol_len (g : Int) (ls : List Ln) (n : Nat) : ∀ m : Nat, ((List.range m).flatMap fun l => crossRow g ls l n).length ≤ m
  | 0 => by simp
  | m + 1 => by
    have ih := crossCol_len g ls n m
    have := crossRow_len g ls m n
    rw [List.range_succ, List.flatMap_append, List.flatMap_singleton, List.length_append]
    omega
def spNearN (K : PySem.W.Frag) : Sp := fun vs H Q _ => ∃ (g : Int) (v : V) (s : S3), vs = [.int g, v] ∧ At3 K H v s ∧ 0 < g ∧ g ≤ 1000 ∧ 0 < s.2.2 ∧ s.2.2 ≤ 2 ^ 46 ∧
  New H (.tup [.int (nr s.1 (s.2.2 * g)), .int (nr s.2.1 (s.2.2 * g))]) Q
def spWantsL (K : PySem.W.Frag) : Sp := fun vs H Q _ => ∃ g v ls, vs = [.int g, v] ∧ Lns K H g v ls ∧ ∀ u H' L, Same H H' → AtDue K H' u L → IsDue (rowsL g ls ls.length) L → Q u H'

section
variable {P : Program} {w : World} {K : PySem.W.Frag} {mg : Str → Option Value} {base : Heap}

theorem ok_law_nearest {f : Addr} {fd : FuncData} (F : Fun K "_law_nearest" "_law_nearest" s_law_nearest f fd) (T : Bt mg) :
    FnG P w K mg base CX0 1 f fd ["_law_grain_here", "_law_spot"] (spNearN K) := by
  refine okG (k := 0) F sc_law_nearest (fun vs H Q E h => ?_) (fun cdv A outer s H vs Q E hr h => ?_)
  · obtain ⟨g, v, s, rfl, _⟩ := h
    rfl
  · obtain ⟨g, _, ⟨n, m, dd⟩, rfl, ⟨a, rfl, hS⟩, h0, h1, h2, h3, q⟩ := h
    refine ⟨_, (pss_cons (ps_asg (pv 1) (pg_tup (by rfl) (pgs_cons (pg_name (i := 2) sc_law_nearest.nd rfl (.inl rfl)) (pgs_cons (pg_name (i := 3) sc_law_nearest.nd rfl (.inl rfl)) (pgs_cons (pg_name (i := 4) sc_law_nearest.nd rfl (.inl rfl)) pgs_nil)))))
      (pss_one (ps_ret (tupN (pa_cons (pe_op op_fdivW (pe_op op_add (pe_op op_mul pe_int (pv 2)) (pe_op op_mul (pv 0) (pv 4))) (pe_op op_mul (pe_op op_mul pe_int (pv 0)) (pv 4))) (pa_cons (pe_op op_fdivW (pe_op op_add (pe_op op_mul pe_int (pv 3)) (pe_op op_mul (pv 0) (pv 4))) (pe_op op_mul (pe_op op_mul pe_int (pv 0)) (pv 4))) pa_nil)))))), ?_⟩
    have h2 : 0 < dd := h2
    have h3 : dd ≤ 2 ^ 46 := h3
    have mg : g * dd ≤ 1000 * 2 ^ 46 := Int.mul_le_mul h1 h3 (by omega) (by decide)
    have mp : 0 < g * dd := Int.mul_pos h0 h2
    have ea : 2 * g * dd = 2 * (g * dd) := Int.mul_assoc ..
    have dv : ∀ n : Int, CDivW n (2 * g * dd) := fun n => wide_div (b := 64) (by omega) (by omega) (by decide) (by decide)
    refine ⟨.ref a, rfl, a, _, rfl, hS, rfl, _, _, rfl, _, _, rfl, _, _, rfl, rfl, ?_⟩
    refine ⟨_, rfl, _, _, rfl, rfl, .inl (by decide), _, rfl, _, rfl, _, _, rfl, rfl, .inl (by omega), _, _, rfl, rfl, _, rfl, _, _, rfl, rfl, .inl (by decide), _, rfl, _, _, rfl, rfl, .inl (by omega), _, _, rfl, rfl, dv _, ?_⟩
    refine ⟨_, rfl, _, _, rfl, rfl, .inl (by decide), _, rfl, _, rfl, _, _, rfl, rfl, .inl (by omega), _, _, rfl, rfl, _, rfl, _, _, rfl, rfl, .inl (by decide), _, rfl, _, _, rfl, rfl, .inl (by omega), _, _, rfl, rfl, dv _, (by show 2 ≤ sizeLine; decide), ?_⟩
    have en : ∀ z : Int, nr z (dd * g) = (2 * z + g * dd) / (2 * g * dd) := fun z => by
      unfold nr
      rw [Int.mul_comm dd g, Int.mul_assoc 2 g dd]
    simp only [en] at q
    exact q

end
end Cl

set_option maxHeartbeats 0
namespace Cl
open PySem PySem.Spec PyProof.Rows L2
open GxR (TabB TabG)

theorem flat_app {α β : Type} (f h : α → List β) : ∀ l : List α, (l.flatMap fun x => f x ++ h x).Perm (l.flatMap f ++ l.flatMap h)
  | [] => .refl _
  | a :: l => by
    rw [List.flatMap_cons, List.flatMap_cons, List.flatMap_cons]
    have ih := flat_app f h l
    refine ((ih.append_left (f a ++ h a))).trans ?_
    rw [List.append_assoc, List.append_assoc]
    refine List.Perm.append_left _ ?_
    rw [← List.append_assoc, ← List.append_assoc]
    exact List.Perm.append_right _ List.perm_append_comm
def colS (g : Int) (ls : List Ln) (n : Nat) : List Rw := (List.range n).flatMap fun k => (List.range k).flatMap fun l => crossRow g ls l k
theorem rowsL_perm (g : Int) (ls : List Ln) (n : Nat) : (rowsL g ls n).Perm (ends g ls n ++ colS g ls n) := flat_app ..
theorem crosses_prs (g : Int) (ls : List Ln) (n : Nat) : crosses g ls (prs n) = (List.range n).flatMap fun k => (List.range (n - (k + 1))).flatMap fun j => crossRow g ls k (k + 1 + j) := by
  unfold crosses prs
  rw [List.flatMap_assoc]
  congr 1
  funext k
  rw [List.flatMap_map]
theorem flat_congr {α β : Type} {f h : α → List β} : ∀ {l : List α}, (∀ x ∈ l, f x = h x) → l.flatMap f = l.flatMap h
  | [], _ => rfl
  | a :: l, e => by rw [List.flatMap_cons, List.flatMap_cons, e a (List.mem_cons_self ..), flat_congr fun x hx => e x (List.mem_cons_of_mem _ hx)]
theorem cols_perm (g : Int) (ls : List Ln) : ∀ n, (colS g ls n).Perm (crosses g ls (prs n))
  | 0 => .refl _
  | n + 1 => by
    have ih := cols_perm g ls n
    rw [crosses_prs] at ih ⊢
    unfold colS at ih ⊢
    rw [List.range_succ, List.flatMap_append, List.flatMap_singleton, List.flatMap_append, List.flatMap_singleton, Nat.sub_self, List.range_zero, List.flatMap_nil, List.append_nil]
    have e : ((List.range n).flatMap fun k => (List.range (n + 1 - (k + 1))).flatMap fun j => crossRow g ls k (k + 1 + j)) = (List.range n).flatMap fun k => ((List.range (n - (k + 1))).flatMap fun j => crossRow g ls k (k + 1 + j)) ++ crossRow g ls k n := flat_congr fun k hk => by
      have hk := List.mem_range.mp hk
      rw [show n + 1 - (k + 1) = (n - (k + 1)) + 1 from by omega, List.range_succ, List.flatMap_append, List.flatMap_singleton, show k + 1 + (n - (k + 1)) = n from by omega]
    rw [e]
    exact (ih.append_right _).trans (flat_app ..).symm
theorem rows_perm (g : Int) (ls : List Ln) : (rowsL g ls ls.length).Perm (rowsP g ls) := (rowsL_perm ..).trans ((cols_perm ..).append_left _)
/-! ### the corners of lines told in another order, each from behind -/
def Xc (g : Int) (p : Pt) (a b : Ln) : Prop := a.1 ≠ a.2 ∧ b.1 ≠ b.2 ∧ ∃ s, cmn a b = [s] ∧ crnS g s = p
theorem Xc.symm {g : Int} {p : Pt} {a b : Ln} (h : Xc g p a b) : Xc g p b a := by
  obtain ⟨h1, h2, s, e, z⟩ := h
  exact ⟨h2, h1, s, by rw [cmn_swap a b h1 h2]; exact e, z⟩
def Cn (g : Int) (ls : List Ln) (p : Pt) : Prop := (∃ l ∈ ls, crn g l.1 = p ∨ crn g l.2 = p) ∨ ¬ ls.Pairwise fun a b => ¬ Xc g p a b
theorem mem_endRow {g : Int} {ls : List Ln} {k : Nat} {p : Pt} : (∃ r ∈ endRow g ls k, r.1 = p) ↔ ∃ l, ls[k]? = some l ∧ (crn g l.1 = p ∨ crn g l.2 = p) := by
  unfold endRow
  split
  · rename_i l h
    simp [h]
  · rename_i h
    simp [h]
theorem mem_rowS {g : Int} {k l : Nat} {ss : List S3} {p : Pt} : (∃ r ∈ rowS g k l ss, r.1 = p) ↔ ∃ s, ss = [s] ∧ crnS g s = p := by
  unfold rowS
  split
  · rename_i s
    simp
  · rename_i h
    constructor
    · rintro ⟨r, hr, _⟩
      cases hr
    · rintro ⟨s, e, _⟩
      exact absurd e (h s)
theorem rows_cn {g : Int} {ls : List Ln} (good : ∀ r ∈ ls, r.1 ≠ r.2) (p : Pt) : (∃ r ∈ rowsP g ls, r.1 = p) ↔ Cn g ls p := by
  unfold rowsP Cn
  constructor
  · rintro ⟨r, hr, e⟩
    rcases List.mem_append.mp hr with hr | hr
    · obtain ⟨k, hk, hr⟩ := List.mem_flatMap.mp hr
      obtain ⟨l, hl, z⟩ := mem_endRow.mp ⟨r, hr, e⟩
      exact .inl ⟨l, List.mem_of_getElem? hl, z⟩
    · obtain ⟨⟨k, l⟩, hk, hr⟩ := List.mem_flatMap.mp hr
      obtain ⟨h1, h2⟩ := prs_mem hk
      have h1 : k < l := h1
      have h2 : l < ls.length := h2
      have hr : r ∈ crossRow g ls k l := hr
      unfold crossRow at hr
      rw [List.getElem?_eq_getElem h2, List.getElem?_eq_getElem (show k < ls.length by omega)] at hr
      obtain ⟨s, es, z⟩ := mem_rowS.mp ⟨r, hr, e⟩
      refine .inr fun w => ?_
      exact List.pairwise_iff_getElem.mp w k l (by omega) h2 h1 ⟨good _ (List.getElem_mem ..), good _ (List.getElem_mem ..), s, es, z⟩
  · rintro (⟨l, hl, z⟩ | w)
    · obtain ⟨k, hk, e⟩ := List.getElem_of_mem hl
      obtain ⟨r, hr, e2⟩ := (mem_endRow (g := g) (ls := ls) (k := k) (p := p)).mpr ⟨l, by rw [List.getElem?_eq_getElem hk, e], z⟩
      exact ⟨r, List.mem_append.mpr (.inl (List.mem_flatMap.mpr ⟨k, List.mem_range.mpr hk, hr⟩)), e2⟩
    · by_cases c : ∃ k l, ∃ h : k < l, ∃ h2 : l < ls.length, Xc g p (ls[k]'(Nat.lt_trans h h2)) ls[l]
      · obtain ⟨k, l, h, h2, _, _, s, es, z⟩ := c
        obtain ⟨r, hr, e⟩ := (mem_rowS (g := g) (k := k) (l := l)).mpr ⟨s, es, z⟩
        refine ⟨r, List.mem_append.mpr (.inr (List.mem_flatMap.mpr ⟨(k, l), ?_, ?_⟩)), e⟩
        · unfold prs
          exact List.mem_flatMap.mpr ⟨k, List.mem_range.mpr (by omega), List.mem_map.mpr ⟨l - (k + 1), List.mem_range.mpr (by omega), by rw [show k + 1 + (l - (k + 1)) = l from by omega]⟩⟩
        · show r ∈ crossRow g ls k l
          unfold crossRow
          rw [List.getElem?_eq_getElem h2, List.getElem?_eq_getElem (show k < ls.length by omega)]
          exact hr
      · refine absurd (List.pairwise_iff_getElem.mpr fun k l h1 h2 h x => c ⟨k, l, h, h2, x⟩) w
theorem IsCs.eq {R S : List Rw} {a b : List Pt} (h1 : IsCs R a) (h2 : IsCs S b) (h : ∀ p, (∃ r ∈ R, r.1 = p) ↔ ∃ r ∈ S, r.1 = p) : a = b :=
  keys_eq h1.1 h2.1 h1.2.1 h2.2.1 fun p => by rw [h1.2.2, h2.2.2]; exact h p
end Cl

set_option maxHeartbeats 0
namespace Cl
open PySem PySem.Spec PyProof.Rows L2
open GxR (TabB TabG)

def un3 (s : S3) : S3 := sp3 s.1 s.2.1 s.2.2
theorem un3_one (p : Pt) : un3 (one3 p) = one3 p := by
  obtain ⟨k, k0, e1, e2, e3, e4, e5⟩ := spot_pos (n := p.1) (m := p.2) (d := 1) Int.zero_lt_one
  have ek : k = 1 := Int.eq_one_of_dvd_one (by omega) ⟨_, by rw [Int.mul_comm]; exact e3⟩
  rw [ek, Int.mul_one] at e1 e2 e3
  show (p.1 / spP p.1 p.2 1, p.2 / spP p.1 p.2 1, (1 : Int) / spP p.1 p.2 1) = (p.1, p.2, 1)
  rw [← e1, ← e2, ← e3]
theorem nb {H H' : Hp} (s : Same H H') {p : Addr} (h : H' p = none) : ∀ xs, H p ≠ some (.lst xs) := fun xs e => by
  have k := s p _ e
  rw [h] at k
  cases k
def spCmn7 (K : PySem.W.Frag) : Sp := fun vs H Q _ => ∃ u v l r, vs = [u, v] ∧ AtL K H u l ∧ AtL K H v r ∧ BdL l ∧ BdL r ∧
  ∀ (a : Addr) (ws : List V) (ss : List S3) (H' : Hp), Same H H' → (∀ xs, H a ≠ some (.lst xs)) → H' a = some (.lst ws) → AllAt (At3 K H') ws ss → (∀ s ∈ ss, 0 < s.2.2 ∧ s.2.2.natAbs < 2 ^ 200 ∧ s.2.2 ≤ 1 + ((trn (less l.2 l.1) (less r.2 r.1)).natAbs : Int)) → ss.map un3 = cmn l r → ss.length ≤ 2 → Q (.ref a) H'

section
variable {P : Program} {w : World} {K : PySem.W.Frag} {mg : Str → Option Value} {base : Heap}

theorem ok_law_common {f : Addr} {fd : FuncData} (F : Fun K "_law_common" "_law_common" s_law_common f fd) (T : Bt mg) (D_law_less : Def P w K mg base 1 "_law_less" ["_law_one", "_law_other"] (spLess K)) (D_law_turn : Def P w K mg base 1 "_law_turn" ["_law_one", "_law_other"] (spTurn K)) :
    FnG P w K mg base CX0 2 f fd ["_law_one", "_law_other"] (spCmn7 K) := by
  refine okG (k := 1) F sc_law_common (fun vs H Q E h => ?_) (fun cdv A outer s H vs Q E hr h => ?_)
  · obtain ⟨u, v, l, r, rfl, _⟩ := h
    rfl
  · obtain ⟨u, v, l, r, rfl, hL, hR, bl, br, q⟩ := h
    refine ⟨_, (pss_cons (ps_asg (tupN (pa_cons (pv 0) (pa_cons (pv 1) pa_nil))) (pg_tup (by rfl) (pgs_cons (pg_tup (by rfl) (pgs_cons (pg_name (i := 2) sc_law_common.nd rfl (.inl rfl)) (pgs_cons (pg_name (i := 3) sc_law_common.nd rfl (.inl rfl)) pgs_nil))) (pgs_cons (pg_tup (by rfl) (pgs_cons (pg_name (i := 4) sc_law_common.nd rfl (.inl rfl)) (pgs_cons (pg_name (i := 5) sc_law_common.nd rfl (.inl rfl)) pgs_nil))) pgs_nil))))
      (pss_cons (ps_par3 (i := 6) (j := 7) (l := 8) (by rfl) sc_law_common.nd rfl rfl rfl (by decide) (by decide) (by decide) rfl rfl rfl (pa_cons (callD D_law_less (hr.mono (by decide)) (pa_cons (pv 3) (pa_cons (pv 2) pa_nil))) (pa_cons (callD D_law_less (hr.mono (by decide)) (pa_cons (pv 5) (pa_cons (pv 4) pa_nil))) (pa_cons (callD D_law_less (hr.mono (by decide)) (pa_cons (pv 4) (pa_cons (pv 2) pa_nil))) pa_nil))) (by rfl))
      (pss_cons (ps_set (i := 9) sc_law_common.nd rfl (.inl rfl) (callD D_law_turn (hr.mono (by decide)) (pa_cons (pv 6) (pa_cons (pv 7) pa_nil))))
      (pss_cons (ps_if (pt_cmpR op_eq (pv 9) pe_int (nomark _)) (pss_cons (ps_if (pt_cmpR op_ne (callD D_law_turn (hr.mono (by decide)) (pa_cons (pv 8) (pa_cons (pv 6) pa_nil))) pe_int (nomark _)) (pss_one (ps_ret (lstN pa_nil))) pss_nil)
      (pss_cons (ps_set (i := 10) sc_law_common.nd rfl (.inr rfl) (pe_callB (cr_max2 rfl hr.room.units) (by rfl) T.max (by decide +kernel) (pa_cons (pe_callB (cr_min2 rfl hr.room.units) (by rfl) T.min (by decide +kernel) (pa_cons (pv 2) (pa_cons (pv 3) pa_nil))) (pa_cons (pe_callB (cr_min2 rfl hr.room.units) (by rfl) T.min (by decide +kernel) (pa_cons (pv 4) (pa_cons (pv 5) pa_nil))) pa_nil))))
      (pss_cons (ps_set (i := 11) sc_law_common.nd rfl (.inr rfl) (pe_callB (cr_min2 rfl hr.room.units) (by rfl) T.min (by decide +kernel) (pa_cons (pe_callB (cr_max2 rfl hr.room.units) (by rfl) T.max (by decide +kernel) (pa_cons (pv 2) (pa_cons (pv 3) pa_nil))) (pa_cons (pe_callB (cr_max2 rfl hr.room.units) (by rfl) T.max (by decide +kernel) (pa_cons (pv 4) (pa_cons (pv 5) pa_nil))) pa_nil))))
      (pss_one (ps_ret (pe_lc (own := [("_law_point_here", 12)]) (g := gName 12) (by rfl) sc_law_common.nd (pi_list (pe_slice sl_listN (lstN (pa_cons (pv 10) (pa_cons (pv 11) pa_nil))) (po_some (pe_callTy call_int1 (by rfl) T.int (by decide +kernel) (pa_cons (pe_cmpR (op_eqD hr.room.units) (pv 10) (pv 11) (nomark _)) pa_nil))) po_none)) (blkOk_by (own := [("_law_point_here", 12)]) (N := ["_law_one", "_law_other", "_law_a", "_law_b", "_law_c", "_law_e", "_law_way", "_law_there", "_law_far_here", "_law_whole", "_law_first", "_law_last", "_law_point_here", "_law_sign_here", "_law_share"]) (sc := defScope s_law_common) (by decide +kernel)) (fun _ _ _ _ _ => (pg_name (i := 12) sc_law_common.nd rfl (.inl rfl))) (fun _ _ _ _ _ => (pts_one (pt_cmpR (op_le2k (K := K) rfl hr.room.units) (pv 10) (pv 11) (nomark _)))) (fun _ _ _ _ _ => (pe_op (op_catTNk (K := K) rfl) (pv 12) (tupN (pa_cons pe_int pa_nil)))))))))) pss_nil)
      (pss_cons (ps_set (i := 13) sc_law_common.nd rfl (.inl rfl) (pe_ix ix_list (lstN (pa_cons (pe_un un_neg pe_int) (pa_cons pe_int pa_nil))) (pe_callTy call_int1 (by rfl) T.int (by decide +kernel) (pa_cons (pe_cmpR op_gt (pv 9) pe_int (nomark _)) pa_nil)) (fun _ _ => rfl)))
      (pss_cons (ps_set (i := 9) sc_law_common.nd rfl (.inl rfl) (pe_op op_mul (pv 9) (pv 13)))
      (pss_cons (ps_set (i := 14) sc_law_common.nd rfl (.inl rfl) (pe_op op_mul (callD D_law_turn (hr.mono (by decide)) (pa_cons (pv 8) (pa_cons (pv 7) pa_nil))) (pv 13)))
      (pss_cons (ps_if (PW.pt (pw_or (pt_not (pt_chain op_le op_le pe_int (pv 14) (pv 9))) (pw_or1 (pt_not (pt_chain op_le op_le pe_int (pe_op op_mul (callD D_law_turn (hr.mono (by decide)) (pa_cons (pv 8) (pa_cons (pv 6) pa_nil))) (pv 13)) (pv 9)))))) (pss_one (ps_ret (lstN pa_nil))) pss_nil)
      (pss_one (ps_ret (lstN (pa_cons (tupN (pa_cons (pe_op op_add (pe_op op_mul (pe_ix ix_tup (pv 2) pe_int (fun _ _ => rfl)) (pv 9)) (pe_op op_mul (pe_ix ix_tup (pv 6) pe_int (fun _ _ => rfl)) (pv 14))) (pa_cons (pe_op op_add (pe_op op_mul (pe_ix ix_tup (pv 2) pe_int (fun _ _ => rfl)) (pv 9)) (pe_op op_mul (pe_ix ix_tup (pv 6) pe_int (fun _ _ => rfl)) (pv 14))) (pa_cons (pv 9) pa_nil)))) pa_nil)))))))))))), ?_⟩
    have b1 := bd_less bl.2 bl.1
    have b2 := bd_less br.2 br.1
    have b3 := bd_less br.1 bl.1
    have t1 := trn_lt b1 b2
    have ba := bl.1
    obtain ⟨a, x, y, ea, hS, hx, hy⟩ := id hL
    obtain ⟨b, x', y', eb, hS', hx', hy'⟩ := id hR
    subst ea eb
    refine ⟨_, rfl, _, rfl, (by show 2 ≤ sizeLine; decide), fun p1 H1 n1 s1 g1 => ⟨p1, _, rfl, .inl (.inl g1), rfl, _, _, rfl, a, _, rfl, seT s1 hS, rfl, _, _, rfl, _, _, rfl, rfl, _, _, rfl, b, _, rfl, seT s1 hS', rfl, _, _, rfl, _, _, rfl, rfl, rfl, ?_⟩⟩
    refine ⟨_, rfl, _, rfl, y, x, l.2, l.1, rfl, hy.same s1, hx.same s1, fun w1 H2 s2 e2 => ⟨_, rfl, _, rfl, y', x', r.2, r.1, rfl, (hy'.same s1).same s2, (hx'.same s1).same s2, fun w2 H3 s3 e3 => ?_⟩⟩
    have s13 := (s1.trans s2).trans s3
    refine ⟨_, rfl, _, rfl, x', x, r.1, l.1, rfl, hx'.same s13, hx.same s13, fun w3 H4 s4 e4 => ⟨_, _, _, rfl, ?_⟩⟩
    have s14 := s13.trans s4
    have f1 := (e2.same s3).same s4
    have f2 := e3.same s4
    have x4 := hx.same s14
    have y4 := hy.same s14
    have x4' := hx'.same s14
    have y4' := hy'.same s14
    refine ⟨_, rfl, _, rfl, w1, w2, _, _, rfl, f1, f2, b1, ?_⟩
    refine ⟨_, rfl, rfl, _, rfl, ?_⟩
    unfold cmn at q
    by_cases h0 : trn (less l.2 l.1) (less r.2 r.1) = 0
    · rw [if_neg (fun z => z h0)] at q
      rw [h0]
      refine iteT ⟨_, rfl, _, rfl, w3, w1, _, _, rfl, e4, f1, b3, rfl, _, rfl, ?_⟩
      rw [trn_neg]
      by_cases h1 : trn (less l.2 l.1) (less r.1 l.1) = 0
      · rw [if_neg (fun z => z h1)] at q
        rw [h1]
        refine iteF ?_
        refine ⟨_, rfl, _, rfl, x, y, l.1, l.2, rfl, x4, y4, fun m1 _ em1 => ⟨_, rfl, _, rfl, x', y', r.1, r.2, rfl, x4', y4', fun m2 _ em2 => ⟨m1, m2, _, _, rfl, em1, em2, fun wl _ el => ?_⟩⟩⟩
        refine ⟨_, rfl, _, rfl, x, y, l.1, l.2, rfl, x4, y4, fun m3 _ em3 => ⟨_, rfl, _, rfl, x', y', r.1, r.2, rfl, x4', y4', fun m4 _ em4 => ⟨m3, m4, _, _, rfl, em3, em4, fun wh _ eh => ?_⟩⟩⟩
        have el : At2 K H4 wl (lo l r) := el
        have eh : At2 K H4 wh (hi l r) := eh
        clear em1 em2 em3 em4
        refine ⟨_, rfl, _, rfl, (by show 2 ≤ sizeLine; decide), fun p5 H5 n5 s5 g5 => ?_⟩
        have el5 := el.same s5
        have eh5 := eh.same s5
        refine ⟨_, rfl, _, rfl, _, _, el5.dp, eh5.dp, rfl, rfl, .inr ⟨_, rfl, _, rfl, p5, _, rfl, .inl (.inl g5), fun p6 H6 n6 s6 g6 => ?_⟩⟩
        obtain ⟨B, eB⟩ : ∃ B, B = PyData.eqv (pd (lo l r)) (pd (hi l r)) := ⟨_, rfl⟩
        rw [← eB] at g6
        have bE : B = decide (lo l r = hi l r) := by
          rw [eB]
          by_cases heq : lo l r = hi l r
          · rw [heq, SeqAt.eqv_refl _ rfl, decide_eq_true rfl]
          · rw [decide_eq_false heq]
            cases hz : PyData.eqv (pd (lo l r)) (pd (hi l r)) with
            | false => rfl
            | true =>
              exfalso
              apply heq
              simp [pd, PyData.eqv, PyData.eqvAll] at hz
              exact Prod.ext hz.1 hz.2
        clear eB
        obtain ⟨VS, PS, gV, aV, lV, eP⟩ : ∃ (VS : List V) (PS : List Pt), H6 p6 = some (.lst VS) ∧ AllAt (At2 K H6) VS PS ∧ PS.length ≤ 2 ∧ PS = (if lo l r = hi l r then [lo l r] else [lo l r, hi l r]) := by
          by_cases heq : lo l r = hi l r
          · rw [bE, decide_eq_true heq] at g6
            refine ⟨[wh], [hi l r], g6, .cons (eh5.same s6) .nil, by simp, by rw [if_pos heq, heq]⟩
          · rw [bE, decide_eq_false heq] at g6
            refine ⟨[wl, wh], [lo l r, hi l r], g6, .cons (el5.same s6) (.cons (eh5.same s6) .nil), by simp, by rw [if_neg heq]⟩
        clear g6
        have s46 := s5.trans s6
        have lVS := aV.length
        refine ⟨p6, rfl, ⟨_, .inl (.inl gV)⟩, fun pD nD => ?_⟩
        refine lcL (K := K) (a := p6) (xs := VS) (fun i H' => Same H6 H' ∧ ∃ ws, H' pD = some (.lst ws) ∧ AllAt (At3 K H') ws ((if llt (hi l r) (lo l r) = true then [] else PS.take i).map one3)) nD (fun H' e1 e2 => ⟨e1, [], e2, by cases llt (hi l r) (lo l r) <;> exact .nil⟩) (fun i H' _ z => .inl (.inl (by exact z.1 _ _ gV))) (fun i z H' hz w => ?_) (fun H7 z => ?_)
        · obtain ⟨t1, ws, t2, t3⟩ := w
          obtain ⟨pt, hpt, c, rfl, hc⟩ := aV.get hz
          refine ⟨rfl, _, rfl, _, rfl, _, _, (el5.same s6).same t1, (eh5.same s6).same t1, _, rfl, ?_⟩
          show if (!llt (hi l r) (lo l r)) = true then _ else _
          have e8 : (PS.take (i + 1)).map one3 = (PS.take i).map one3 ++ [one3 pt] := by rw [List.take_add_one, hpt, List.map_append]; rfl
          cases hlt : llt (hi l r) (lo l r) with
          | true =>
            rw [hlt] at t3
            exact iteF ⟨t1, ws, t2, t3⟩
          | false =>
            rw [hlt] at t3
            refine iteT ⟨_, rfl, (by show 1 ≤ sizeLine; decide), fun p11 H11 n11 s11 g11 => ⟨c, p11, _, _, rfl, rfl, seT (t1.trans s11) hc, .inl (.inl g11), by simp, by simp, (by show 3 ≤ sizeLine; decide), fun p12 H12 n12 s12 g12 => ?_⟩⟩
            have t3' : AllAt (At3 K H') ws ((PS.take i).map one3) := t3
            have := acc3 (K := K) (t := one3 pt) nD (t1.trans s11) (s11 _ _ t2) (t3'.map fun v s h => h.same s11) s12 n12 g12 (by rw [List.length_map, List.length_take]; omega)
            rw [← e8] at this
            exact this
        · obtain ⟨t1, ws, t2, t3⟩ := z
          have e9 : ((if llt (hi l r) (lo l r) = true then [] else PS.take VS.length).map one3) = alo l r := by
            rw [lVS, List.take_length, eP]
            unfold alo
            split
            · rfl
            · split <;> rfl
          rw [e9] at t3
          refine q pD ws _ H7 ((s14.trans s46).trans t1) (nb (s14.trans s46) nD) t2 t3 (fun s hs => ?_) ?_ ?_
          · have : s.2.2 = 1 := by
              rw [← e9] at hs
              obtain ⟨p, _, rfl⟩ := List.mem_map.mp hs
              rfl
            rw [this]
            exact ⟨by decide, by decide, by omega⟩
          · rw [← e9, List.map_map]
            exact List.map_congr_left fun p _ => un3_one p
          · rw [← e9, List.length_map]
            split
            · exact Nat.zero_le _
            · rw [List.length_take]; omega
      · rw [if_pos h1] at q
        have e0 : (!decide (V.int (-trn (less l.2 l.1) (less r.1 l.1)) = V.int 0)) = true := by rw [decide_eq_false (fun z => h1 (by have := V.int.inj z; omega))]; rfl
        rw [e0]
        exact iteT ⟨Nat.zero_le _, fun p6 H6 n6 s6 g6 => q p6 [] [] _ (s14.trans s6) (nb s14 n6) g6 .nil (fun _ z => nomatch z) rfl (Nat.zero_le _)⟩
    · rw [if_pos h0] at q
      have e0 : decide (V.int (trn (less l.2 l.1) (less r.2 r.1)) = V.int 0) = false := decide_eq_false (fun z => h0 (V.int.inj z))
      rw [e0]
      refine iteF ⟨1, rfl, (by show 2 ≤ sizeLine; decide), fun pm H5 n5 s5 g5 => ⟨_, rfl, _, _, rfl, rfl, .inr ⟨_, rfl, pm, _, _, .int (kfs l r), rfl, rfl, .inl (.inl g5), ?_, ?_⟩⟩⟩
      · by_cases hp : 0 < trn (less l.2 l.1) (less r.2 r.1)
        · have ek : kfs l r = 1 := if_neg (by omega)
          rw [decide_eq_true hp, ek]
          rfl
        · have ek : kfs l r = -1 := if_pos (by omega)
          rw [decide_eq_false hp, ek]
          rfl
      have kb : -(2 ^ 64) < kfs l r ∧ kfs l r < 2 ^ 64 := by unfold kfs; split <;> omega
      have s15 := s14.trans s5
      have hpos : 0 < trn (less l.2 l.1) (less r.2 r.1) * kfs l r := klm_pos l r h0
      have hb : (trn (less l.2 l.1) (less r.2 r.1) * kfs l r).natAbs < 2 ^ 200 := by
        unfold kfs
        split <;> omega
      have hq : trn (less l.2 l.1) (less r.2 r.1) * kfs l r ≤ 1 + ((trn (less l.2 l.1) (less r.2 r.1)).natAbs : Int) := by
        unfold kfs
        split <;> omega
      have key : ∀ (M N L S : Int), M = trn (less l.2 l.1) (less r.2 r.1) → N = trn (less r.1 l.1) (less r.2 r.1) → L = trn (less r.1 l.1) (less l.2 l.1) → S = kfs l r →
          ((0 ≤ N * S ∧ N * S ≤ M * S) ∧ (0 ≤ L * S ∧ L * S ≤ M * S) → acr l r = [sp3 (M * S * l.1.1 + N * S * (l.2.1 - l.1.1)) (M * S * l.1.2 + N * S * (l.2.2 - l.1.2)) (M * S)]) ∧
          (¬ ((0 ≤ N * S ∧ N * S ≤ M * S) ∧ (0 ≤ L * S ∧ L * S ≤ M * S)) → acr l r = []) := by
        rintro _ _ _ _ rfl rfl rfl rfl
        exact ⟨fun z => if_pos z, fun z => if_neg z⟩
      clear e0 t1
      generalize hS : kfs l r = S at kb hpos hb hq ⊢
      generalize hM : trn (less l.2 l.1) (less r.2 r.1) = M at hpos hb hq h0 ⊢
      refine ⟨_, rfl, _, rfl, _, _, rfl, rfl, .inr (by omega), ?_⟩
      refine ⟨_, rfl, _, rfl, w3, w2, _, _, rfl, e4.same s5, f2.same s5, b3, ?_⟩
      generalize hN : trn (less r.1 l.1) (less r.2 r.1) = N
      refine ⟨_, rfl, _, _, rfl, rfl, .inr (by omega), ?_⟩
      have fin : ∀ {H6 : Hp}, H6 = H5 → acr l r = [] → (0 : Nat) ≤ sizeLine ∧ New H6 (.lst []) Q := fun {H6} e ea => ⟨Nat.zero_le _, fun p6 H7 n6 s6 g6 => q p6 [] [] _ (s15.trans (by rw [← e]; exact s6)) (nb s15 (by rw [← e]; exact n6)) g6 .nil (fun _ z => nomatch z) (by rw [ea]; rfl) (Nat.zero_le _)⟩
      have key2 := fun L (hL : L = trn (less r.1 l.1) (less l.2 l.1)) => key M N L S hM.symm hN.symm hL hS.symm
      clear key
      by_cases c1 : 0 ≤ N * S ∧ N * S ≤ M * S
      · refine ⟨_, rfl, _, _, rfl, rfl, _, rfl, ?_⟩
        rw [decide_eq_true c1.1]
        refine iteT ⟨_, rfl, _, _, rfl, rfl, _, rfl, ?_⟩
        rw [decide_eq_true c1.2]
        refine iteF ⟨_, rfl, _, rfl, w3, w1, _, _, rfl, e4.same s5, f1.same s5, b3, ?_⟩
        have key3 := key2 _ rfl
        revert key3
        generalize trn (less r.1 l.1) (less l.2 l.1) = L
        intro key3
        refine ⟨_, rfl, _, _, rfl, rfl, .inr (by omega), _, _, rfl, rfl, _, rfl, ?_⟩
        by_cases c2 : 0 ≤ L * S ∧ L * S ≤ M * S
        · have ea := key3.1 ⟨c1, c2⟩
          rw [ea] at q
          clear fin key3 key2
          rw [decide_eq_true c2.1]
          refine iteT ⟨_, rfl, _, _, rfl, rfl, _, rfl, ?_⟩
          rw [decide_eq_true c2.2]
          refine iteF ?_
          obtain ⟨c, ec, hc⟩ := (hx.same s15)
          obtain ⟨w, ew, hw⟩ := (f1.same s5)
          subst ec ew
          clear c1 c2 hN hS kb h0
          unfold BdP at b1
          unfold BdC at ba
          have m1 : CMul l.1.1 (M * S) := .inl (by omega)
          have m2 : CMul l.1.2 (M * S) := .inl (by omega)
          have m3 : CMul (less l.2 l.1).1 (N * S) := .inl (by omega)
          have m4 : CMul (less l.2 l.1).2 (N * S) := .inl (by omega)
          refine ⟨_, rfl, c, _, 0, _, rfl, rfl, hc, rfl, ?_⟩
          refine ⟨_, rfl, _, _, rfl, rfl, m1, ?_⟩
          refine ⟨_, rfl, w, _, 0, _, rfl, rfl, hw, rfl, ?_⟩
          refine ⟨_, rfl, _, _, rfl, rfl, m3, ?_⟩
          refine ⟨_, _, rfl, rfl, ?_⟩
          refine ⟨_, rfl, c, _, 1, _, rfl, rfl, hc, rfl, ?_⟩
          refine ⟨_, rfl, _, _, rfl, rfl, m2, ?_⟩
          refine ⟨_, rfl, w, _, 1, _, rfl, rfl, hw, rfl, ?_⟩
          refine ⟨_, rfl, _, _, rfl, rfl, m4, ?_⟩
          refine ⟨_, _, rfl, rfl, ?_⟩
          have e7 : sp3 (l.1.1 * (M * S) + (l.2.1 - l.1.1) * (N * S)) (l.1.2 * (M * S) + (l.2.2 - l.1.2) * (N * S)) (M * S) = sp3 (M * S * l.1.1 + N * S * (l.2.1 - l.1.1)) (M * S * l.1.2 + N * S * (l.2.2 - l.1.2)) (M * S) := by
            rw [Int.mul_comm l.1.1, Int.mul_comm l.1.2, Int.mul_comm _ (N * S), Int.mul_comm _ (N * S)]
          refine ⟨_, rfl, (by show 3 ≤ sizeLine; decide), fun p6 H6 n6 s6 g6 => ⟨(by show 1 ≤ sizeLine; decide), fun p7 H7 n7 s7 g7 => ?_⟩⟩
          refine q p7 _ [(l.1.1 * (M * S) + (l.2.1 - l.1.1) * (N * S), l.1.2 * (M * S) + (l.2.2 - l.1.2) * (N * S), M * S)] _ ((s15.trans s6).trans s7) (nb (s15.trans s6) n7) g7 (.cons ⟨p6, rfl, .inl (.inl (s7 _ _ g6))⟩ .nil) (fun s hs => ?_) ?_ (by show 1 ≤ 2; decide)
          · rw [List.mem_singleton.mp hs]
            exact ⟨hpos, hb, by rw [hM]; exact hq⟩
          · rw [← e7]
            rfl
        · have ea := key3.2 (fun z => c2 z.2)
          refine ite2 (fun e => ⟨_, rfl, _, _, rfl, rfl, _, rfl, ?_⟩) (fun e => ⟨_, rfl, iteT (fin rfl ea)⟩)
          rw [decide_eq_false (fun z => c2 ⟨of_decide_eq_true e, z⟩)]
          exact iteT (fin rfl ea)
      · have ea := (key2 _ rfl).2 (fun z => c1 z.1)
        refine ⟨_, rfl, _, _, rfl, rfl, _, rfl, ite2 (fun e => ⟨_, rfl, _, _, rfl, rfl, _, rfl, ?_⟩) (fun e => ⟨_, rfl, iteT (iteT (fin rfl ea))⟩)⟩
        rw [decide_eq_false (fun z => c1 ⟨of_decide_eq_true e, z⟩)]
        exact iteT (iteT (fin rfl ea))

end
end Cl

/-! The probes of a set's table meet every slot, for every mask one below a power of two. -/
namespace SG
open PySem PySem.Spec L2
def S : Nat → Nat
  | 0 => 0
  | n + 1 => S n * 5 + 1
theorem S_add (a : Nat) : ∀ b, S (a + b) = 5 ^ b * S a + S b
  | 0 => by simp [S]
  | b + 1 => by
    show S (a + b) * 5 + 1 = _
    rw [S_add a b, Nat.pow_succ]
    show _ = 5 ^ b * 5 * S a + (S b * 5 + 1)
    rw [Nat.add_mul, Nat.mul_right_comm]
    omega
theorem pow5 (n : Nat) : ∃ q, 5 ^ n = 4 * q + 1 := by
  induction n with
  | zero => exact ⟨0, rfl⟩
  | succ n ih => obtain ⟨q, e⟩ := ih; exact ⟨5 * q + 1, by rw [Nat.pow_succ, e]; omega⟩
theorem S_pow : ∀ n, ∃ c, S (2 ^ n) = 2 ^ n * (2 * c + 1)
  | 0 => ⟨0, rfl⟩
  | n + 1 => by
    obtain ⟨c, e⟩ := S_pow n
    obtain ⟨q, eq⟩ := pow5 (2 ^ n)
    refine ⟨2 * q * c + q + c, ?_⟩
    rw [show 2 ^ (n + 1) = 2 ^ n + 2 ^ n by rw [Nat.pow_succ]; omega, S_add, e, eq]
    generalize 2 ^ n = p
    have h : ∀ x : Nat, (4 * q + 1) * x + x = 2 * (2 * q + 1) * x := fun x => by
      have : (4 * q + 1) * x + x = (4 * q + 1 + 1) * x := by rw [Nat.add_mul (4 * q + 1) 1 x, Nat.one_mul]
      rw [this]; congr 1; omega
    rw [h]
    have h2 : (p + p) * (2 * (2 * q * c + q + c) + 1) = p * (2 * (2 * (2 * q * c + q + c) + 1)) := by rw [← Nat.two_mul, Nat.mul_comm 2 p, Nat.mul_assoc]
    rw [h2, Nat.mul_comm (2 * (2 * q + 1)), Nat.mul_assoc]
    congr 1
    have h3 : (2 * c + 1) * (2 * (2 * q + 1)) = 2 * ((2 * c + 1) * (2 * q + 1)) := by rw [Nat.mul_left_comm]
    rw [h3]
    congr 1
    rw [Nat.add_mul, Nat.mul_add, Nat.one_mul, Nat.mul_one]
    have h4 : 2 * c * (2 * q) = 2 * (2 * q * c) := by
      rw [Nat.mul_assoc, Nat.mul_comm c]
    omega
theorem S_surj : ∀ n j, ∃ b, b < 2 ^ n ∧ S b % 2 ^ n = j % 2 ^ n
  | 0, j => ⟨0, by decide, by rw [Nat.pow_zero, Nat.mod_one, Nat.mod_one]⟩
  | n + 1, j => by
    obtain ⟨b, hb, e⟩ := S_surj n j
    obtain ⟨c, ec⟩ := S_pow n
    obtain ⟨q, eq⟩ := pow5 b
    have e2 : 2 ^ (n + 1) = 2 * 2 ^ n := by rw [Nat.pow_succ, Nat.mul_comm]
    have pos : 0 < 2 ^ n := Nat.pow_pos (by decide)
    rw [e2]
    have key : ∀ x y p : Nat, 0 < p → x % p = y % p → x % (2 * p) = y % (2 * p) ∨ (x + p) % (2 * p) = y % (2 * p) := by
      intro x y p hp h
      have d1 := Nat.div_add_mod x p
      have d2 := Nat.div_add_mod y p
      have hm : x % p < p := Nat.mod_lt _ hp
      generalize x / p = u at d1
      generalize y / p = v at d2
      generalize x % p = r at d1 h hm
      rw [← h] at d2
      subst d1 d2
      have z : ∀ k, (2 * p * k + r) % (2 * p) = r := fun k => by rw [Nat.mul_add_mod]; exact Nat.mod_eq_of_lt (by omega)
      have z1 : ∀ k, (2 * p * k + (p + r)) % (2 * p) = p + r := fun k => by rw [Nat.mul_add_mod]; exact Nat.mod_eq_of_lt (by omega)
      have ev : ∀ k, p * (2 * k) + r = 2 * p * k + r := fun k => by rw [← Nat.mul_assoc, Nat.mul_comm p 2]
      have od : ∀ k, p * (2 * k + 1) + r = 2 * p * k + (p + r) := fun k => by rw [Nat.mul_add, ← Nat.mul_assoc, Nat.mul_comm p 2, Nat.mul_one, Nat.add_assoc]
      have ep : ∀ k, p * (2 * k) + r + p = 2 * p * k + (p + r) := fun k => by rw [ev]; omega
      have op : ∀ k, p * (2 * k + 1) + r + p = 2 * p * (k + 1) + r := fun k => by rw [od, Nat.mul_add]; omega
      rcases Nat.mod_two_eq_zero_or_one u with hu | hu <;> rcases Nat.mod_two_eq_zero_or_one v with hv | hv
      · obtain ⟨a, rfl⟩ : ∃ a, u = 2 * a := ⟨u / 2, by omega⟩
        obtain ⟨b, rfl⟩ : ∃ a, v = 2 * a := ⟨v / 2, by omega⟩
        left; rw [ev, ev, z, z]
      · obtain ⟨a, rfl⟩ : ∃ a, u = 2 * a := ⟨u / 2, by omega⟩
        obtain ⟨b, rfl⟩ : ∃ a, v = 2 * a + 1 := ⟨v / 2, by omega⟩
        right; rw [ep, od, z1, z1]
      · obtain ⟨a, rfl⟩ : ∃ a, u = 2 * a + 1 := ⟨u / 2, by omega⟩
        obtain ⟨b, rfl⟩ : ∃ a, v = 2 * a := ⟨v / 2, by omega⟩
        right; rw [op, ev, z, z]
      · obtain ⟨a, rfl⟩ : ∃ a, u = 2 * a + 1 := ⟨u / 2, by omega⟩
        obtain ⟨b, rfl⟩ : ∃ a, v = 2 * a + 1 := ⟨v / 2, by omega⟩
        left; rw [od, od, z1, z1]
    rcases key (S b) j (2 ^ n) pos e with h | h
    · exact ⟨b, by omega, h⟩
    · refine ⟨2 ^ n + b, by omega, ?_⟩
      rw [← h, S_add, ec, eq]
      generalize 2 ^ n = p
      have : (4 * q + 1) * (p * (2 * c + 1)) = 2 * p * ((4 * q + 1) * c + 2 * q) + p := by
        rw [Nat.mul_left_comm, Nat.mul_comm 2 p, Nat.mul_assoc]
        have : (4 * q + 1) * (2 * c + 1) = 2 * ((4 * q + 1) * c + 2 * q) + 1 := by
          rw [Nat.mul_add, Nat.mul_left_comm]; omega
        rw [this, Nat.mul_add, Nat.mul_one]
      rw [this, Nat.add_assoc, Nat.mul_add_mod, Nat.add_comm p]
def MaskG (m : Nat) : Prop := ∃ n, 3 ≤ n ∧ n ≤ 13 ∧ m + 1 = 2 ^ n
theorem MaskG.odd {m : Nat} (h : MaskG m) : m % 2 = 1 := by
  obtain ⟨n, h1, h2, e⟩ := h
  obtain ⟨k, rfl⟩ : ∃ k, n = k + 1 := ⟨n - 1, by omega⟩
  rw [Nat.pow_succ] at e
  omega
theorem MaskG.le {m : Nat} (h : MaskG m) : m ≤ 8191 := by
  obtain ⟨n, h1, h2, e⟩ := h
  have : 2 ^ n ≤ 2 ^ 13 := Nat.pow_le_pow_right (by decide) h2
  omega
theorem lcgN_S (m : Nat) : ∀ k, lcgN m k = S k % (m + 1)
  | 0 => by show 0 = 0 % (m + 1); rw [Nat.zero_mod]
  | k + 1 => by
    show (lcgN m k * 5 + 1) % (m + 1) = (S k * 5 + 1) % (m + 1)
    rw [lcgN_S m k, Nat.add_mod, Nat.mod_mul_mod, ← Nat.add_mod]
theorem lcg_allG {m : Nat} (h : MaskG m) {j : Nat} (hj : j ≤ m) : ∃ b, b ≤ m ∧ lcgN m b = j := by
  obtain ⟨n, h1, h2, e⟩ := h
  obtain ⟨b, hb, eb⟩ := S_surj n j
  refine ⟨b, by omega, ?_⟩
  rw [lcgN_S, e, eb]
  exact Nat.mod_eq_of_lt (by omega)
theorem lcg_roundG {m : Nat} (h : MaskG m) : lcgN m (m + 1) = 0 := by
  obtain ⟨n, h1, h2, e⟩ := h
  obtain ⟨c, ec⟩ := S_pow n
  rw [lcgN_S, e, ec, Nat.mul_mod_right]
theorem lcgI_allG {m : Nat} (h : MaskG m) {i j : Nat} (hi : i ≤ m) (hj : j ≤ m) : ∃ k, k ≤ m ∧ lcgI m i k = j := by
  obtain ⟨a, ha, ea⟩ := lcg_allG h hi
  obtain ⟨b, hb, eb⟩ := lcg_allG h hj
  by_cases q : a ≤ b
  · exact ⟨b - a, by omega, by rw [← ea, lcgN_add, ← eb]; congr 1; omega⟩
  · refine ⟨m + 1 + b - a, by omega, ?_⟩
    have e0 : lcgI m 0 b = lcgN m b := by
      have := lcgN_add m 0 b
      rw [Nat.zero_add] at this
      exact this
    rw [← ea, lcgN_add, show a + (m + 1 + b - a) = m + 1 + b by omega, ← lcgN_add, lcg_roundG h, e0, eb]
theorem run_meetsG {m : Nat} (hm : MaskG m) (h : Int) {j : Nat} (hj : j ≤ m) : ∃ n, n ≤ m + 12 ∧ runI m (SetTable.bits h) n = j := by
  obtain ⟨k, hk, e⟩ := lcgI_allG hm (runI_le m (SetTable.bits h) 12) hj
  exact ⟨12 + k, by omega, by rw [runI_tail (bits_lt h), e]⟩
theorem off_le (m : Nat) : ∀ n i b, off m i b n ≤ 10 * n
  | 0, i, b => Nat.le_refl 0
  | n + 1, i, b => by
    show SetTable.runEnd m i - i + 1 + off m (SetTable.leap m i b).1 (SetTable.leap m i b).2 n ≤ _
    have := off_le m n (SetTable.leap m i b).1 (SetTable.leap m i b).2
    have : SetTable.runEnd m i - i ≤ 9 := by unfold SetTable.runEnd; split <;> omega
    omega
theorem nth_offj (m : Nat) (h : Int) (n : Nat) : way m h (off m (SetTable.bits h % (m + 1)) (SetTable.bits h) n) = runI m (SetTable.bits h) n := by
  show (nth m (runAt m (SetTable.bits h % (m + 1)) (SetTable.bits h)) _).j = _
  rw [nth_off, itL_run]
  rfl
theorem nth_meetsG {m : Nat} (hm : MaskG m) (h : Int) {j : Nat} (hj : j ≤ m) : ∃ k, k < 10 * SetTable.turns m ∧ way m h k = j := by
  obtain ⟨n, hn, e⟩ := run_meetsG hm h hj
  refine ⟨_, ?_, (nth_offj m h n).trans e⟩
  have := off_le m n (SetTable.bits h % (m + 1)) (SetTable.bits h)
  unfold SetTable.turns
  omega
theorem way_leG (m : Nat) (h : Int) (k : Nat) : way m h k ≤ m := by
  have hi : SetTable.bits h % (m + 1) ≤ m := Nat.le_of_lt_succ (Nat.mod_lt _ (Nat.succ_pos m))
  have := nth_in (m := m) k (runAt m (SetTable.bits h % (m + 1)) (SetTable.bits h)) (by
    obtain ⟨a, b, c⟩ := runEnd_bd hi
    show SetTable.bits h % (m + 1) + (SetTable.runEnd m (SetTable.bits h % (m + 1)) - SetTable.bits h % (m + 1)) ≤ m
    omega)
  show (nth m (runAt m (SetTable.bits h % (m + 1)) (SetTable.bits h)) k).j ≤ m
  omega
theorem free_findG {m : Nat} (hm : MaskG m) (owner : Array (Option Nat)) (h : Int) {j : Nat} (hj : j ≤ m) (hn : oAt owner j = none) :
    ∃ K, SetTable.layClean.free m owner (SetTable.turns m) (SetTable.bits h % (m + 1)) (SetTable.bits h) = some (way m h K) ∧
      oAt owner (way m h K) = none ∧ ∀ k, k < K → oAt owner (way m h k) ≠ none := by
  obtain ⟨n, hn2, e⟩ := run_meetsG hm h hj
  have e2 := (nth_offj m h n).trans e
  obtain ⟨K, hK, hp, hl⟩ := st_least (p := fun k => oAt owner (way m h k) = none) _ (by show oAt owner (way m h (off m (SetTable.bits h % (m + 1)) (SetTable.bits h) n)) = none; rw [e2]; exact hn)
  refine ⟨K, ?_, hp, hl⟩
  refine free_spec m owner (SetTable.turns m) n _ _ K (by unfold SetTable.turns; omega) hK (fun k hk => ?_) ?_
  · cases q : oAt owner (way m h k) with
    | none => exact absurd q (hl k hk)
    | some _ => rfl
  · show (oAt owner (way m h K)).isNone = true
    rw [hp]; rfl
end SG

/-! A set's table laid anew, and a row put into it, at any mask one below a power of two. -/
namespace SG
open PySem PySem.Spec L2
theorem own_step {m : Nat} (hm : MaskG m) {done : List Int} {owner : Array (Option Nat)} (O : Own m done owner) (hl : done.length ≤ m) (h : Int) :
    ∃ j, SetTable.layClean.free m owner (SetTable.turns m) (SetTable.bits h % (m + 1)) (SetTable.bits h) = some j ∧
      Own m (done ++ [h]) (owner.setIfInBounds j (some done.length)) := by
  obtain ⟨ps, lp, hp⟩ := O.ps
  obtain ⟨j0, hj0, nj0⟩ := st_missing ps (m + 1) (by omega)
  have free0 : oAt owner j0 = none := Classical.byContradiction fun z => nj0 (hp j0 (by omega) z)
  obtain ⟨K, e, hn, hb⟩ := free_findG hm owner h (Nat.le_of_lt_succ hj0) free0
  refine ⟨_, e, ?_⟩
  have hw := way_leG m h K
  have self : oAt (owner.setIfInBounds (way m h K) (some done.length)) (way m h K) = some done.length := oAt_set_self _ (by rw [O.sz]; omega)
  have ne : ∀ {j}, j ≠ way m h K → oAt (owner.setIfInBounds (way m h K) (some done.length)) j = oAt owner j := fun hj => oAt_set_ne _ hj
  have keep : ∀ j, oAt owner j ≠ none → oAt (owner.setIfInBounds (way m h K) (some done.length)) j ≠ none := fun j hj => by
    by_cases q : j = way m h K
    · rw [q, self]; exact nofun
    · rw [ne q]; exact hj
  refine ⟨by rw [Array.size_setIfInBounds]; exact O.sz, fun j k hj hk => ?_, fun k hk => ?_, ⟨ps ++ [way m h K], by simp [lp], fun j hj hq => ?_⟩⟩
  · by_cases q : j = way m h K
    · rw [q, self] at hk
      injection hk with hk
      exact ⟨h, K, by rw [← hk]; simp, q.symm, fun k' hk' => keep _ (hb k' hk')⟩
    · rw [ne q] at hk
      obtain ⟨h', K', e1, e2, e3⟩ := O.at_ j k hj hk
      exact ⟨h', K', by rw [List.getElem?_append_left (List.getElem?_eq_some_iff.mp e1).1]; exact e1, e2, fun k' hk' => keep _ (e3 k' hk')⟩
  · rw [List.length_append] at hk
    by_cases q : k = done.length
    · exact ⟨way m h K, hw, by rw [self, q]⟩
    · obtain ⟨j, hj, ej⟩ := O.all k (by have : [h].length = 1 := rfl; omega)
      refine ⟨j, hj, ?_⟩
      rw [ne (fun z => by rw [z, hn] at ej; cases ej)]
      exact ej
  · by_cases q : j = way m h K
    · simp [q]
    · rw [ne q] at hq
      exact List.mem_append_left _ (hp j hj hq)
theorem fold_okG {m : Nat} (hm : MaskG m) : ∀ (rest done : List Int) (owner : Array (Option Nat)), Own m done owner → done.length + rest.length ≤ m →
    ∃ owner', List.foldl (stepF m) (some (owner, done.length)) rest = some (owner', (done ++ rest).length) ∧ Own m (done ++ rest) owner'
  | [], done, owner, O, _ => ⟨owner, by simp, by simpa using O⟩
  | h :: rest, done, owner, O, hl => by
    obtain ⟨j, e, O1⟩ := own_step hm O (by simp at hl; omega) h
    obtain ⟨o', e2, O2⟩ := fold_okG hm rest (done ++ [h]) _ O1 (by simp at hl ⊢; omega)
    refine ⟨o', ?_, by simpa using O2⟩
    rw [List.foldl_cons]
    have e3 : stepF m (some (owner, done.length)) h = some (owner.setIfInBounds j (some done.length), (done ++ [h]).length) := by
      show (do let j ← SetTable.layClean.free m owner (SetTable.turns m) (SetTable.bits h % (m + 1)) (SetTable.bits h); pure (owner.setIfInBounds j (some done.length), done.length + 1)) = _
      rw [e]
      simp
    rw [e3, e2]
    simp
theorem layClean_okG {m : Nat} (hm : MaskG m) {hs : Array Int} (hl : hs.size ≤ m) : ∃ owner, SetTable.layClean m hs = some owner ∧ Own m hs.toList owner := by
  obtain ⟨o, e, O⟩ := fold_okG hm hs.toList [] _ (Own.init m) (by simpa using hl)
  refine ⟨o, ?_, by simpa using O⟩
  rw [layClean_eq]
  rw [show (0 : Nat) = ([] : List Int).length from rfl, e]
  rfl
structure TabG (t : SetTable) (hs : List Int) : Prop where
  ris : Ris t.place.toList
  dm : t.dummies = #[]
  sz : t.place.size = hs.length
  mok : MaskG t.mask
  bd : ∀ x ∈ t.place.toList, x ≤ t.mask
  reach : ∀ (i : Nat) (h : Int) (j : Nat), hs[i]? = some h → t.place.toList[i]? = some j →
    ∃ k, way t.mask h k = j ∧ ∀ k', k' < k → way t.mask h k' ∈ t.place.toList
section
variable {t : SetTable} {hs : List Int} (T : TabG t hs)
include T
theorem TabG.first (hl : hs.length ≤ t.mask) (h : Int) : ∃ K, K < 10 * SetTable.turns t.mask ∧ way t.mask h K ∉ t.place.toList ∧ ∀ k, k < K → way t.mask h k ∈ t.place.toList := by
  obtain ⟨j, hj, nj⟩ := st_missing t.place.toList (t.mask + 1) (by rw [Array.length_toList, T.sz]; omega)
  obtain ⟨k, hk, e⟩ := nth_meetsG T.mok h (Nat.le_of_lt_succ hj)
  obtain ⟨K, hK, hp, hl2⟩ := st_least (p := fun k => way t.mask h k ∉ t.place.toList) k (by show way t.mask h k ∉ _; rw [e]; exact nj)
  exact ⟨K, by omega, hp, fun k' hk' => Classical.byContradiction fun z => hl2 k' hk' z⟩
theorem TabG.before {h : Int} {K i j : Nat} (hK : way t.mask h K ∉ t.place.toList) (hi : hs[i]? = some h) (hj : t.place.toList[i]? = some j) :
    ∃ k, k < K ∧ way t.mask h k = j := by
  obtain ⟨k, e, hb⟩ := T.reach i h j hi hj
  refine ⟨k, Classical.byContradiction fun z => ?_, e⟩
  rcases Nat.lt_or_eq_of_le (Nat.le_of_not_lt z) with q | q
  · exact hK (hb K q)
  · rw [q, e] at hK
    exact hK (List.mem_of_getElem? hj)
theorem TabG.below_le (j : Nat) : SetTable.below t.place j ≤ hs.length := by
  have := (below_cut T.ris j).1
  rw [← T.sz]
  exact this
theorem TabG.put {h : Int} {K : Nat} (hK : way t.mask h K ∉ t.place.toList) (hb : ∀ k, k < K → way t.mask h k ∈ t.place.toList) :
    (t.put (way t.mask h K)).2 = SetTable.below t.place (way t.mask h K) ∧ SetTable.below t.place (way t.mask h K) ≤ hs.length ∧
      TabG (t.put (way t.mask h K)).1 (hs.take (SetTable.below t.place (way t.mask h K)) ++ h :: hs.drop (SetTable.below t.place (way t.mask h K))) ∧
      (t.put (way t.mask h K)).1.mask = t.mask ∧ (t.put (way t.mask h K)).1.led = t.led ∧ (t.put (way t.mask h K)).1.plain = t.plain ∧
      (t.put (way t.mask h K)).1.fill = hs.length + 1 := by
  have pl := put_place t (way t.mask h K)
  have pd := put_dm T.dm (way t.mask h K)
  have ble := T.below_le (way t.mask h K)
  have wle := way_leG t.mask h K
  have mm : (t.put (way t.mask h K)).1.mask = t.mask := rfl
  have ris : Ris (t.put (way t.mask h K)).1.place.toList :=
    ris_insert T.ris fun z => hK (List.mem_of_getElem? (by rw [Array.getElem?_toList]; exact z))
  have mem : ∀ x, x ∈ (t.put (way t.mask h K)).1.place.toList ↔ x = way t.mask h K ∨ x ∈ t.place.toList := fun x => by
    rw [pl, (put_perm _ _ _).mem_iff, List.mem_cons]
  have lp : t.place.toList.length = hs.length := by rw [Array.length_toList, T.sz]
  have szz : (t.put (way t.mask h K)).1.place.size = hs.length + 1 := by
    rw [← Array.length_toList, pl, len_ins _ (by rw [lp]; exact ble), lp]
  generalize hp : SetTable.below t.place (way t.mask h K) = p at *
  refine ⟨hp, ble, ⟨ris, pd, by rw [szz, len_ins _ ble], T.mok, fun x hx => ?_, fun i h' j hi hj => ?_⟩, rfl, rfl, rfl, ?_⟩
  · rcases (mem x).mp hx with q | q
    · rw [q]; exact wle
    · exact T.bd x q
  · rw [tins_get _ ble] at hi
    rw [pl, tins_get _ (by rw [lp]; exact ble)] at hj
    rw [mm]
    have old : ∀ i', hs[i']? = some h' → t.place.toList[i']? = some j → ∃ k, way t.mask h' k = j ∧ ∀ k', k' < k → way t.mask h' k' ∈ (t.put (way t.mask h K)).1.place.toList := fun i' a b => by
      obtain ⟨k, e, g⟩ := T.reach i' h' j a b
      exact ⟨k, e, fun k' hk' => (mem _).mpr (.inr (g k' hk'))⟩
    by_cases q : i < p
    · rw [if_pos q] at hi hj
      exact old i hi hj
    · rw [if_neg q] at hi hj
      by_cases q2 : i = p
      · rw [if_pos q2] at hi hj
        injection hi with hi
        injection hj with hj
        subst hi hj
        exact ⟨K, rfl, fun k' hk' => (mem _).mpr (.inr (hb k' hk'))⟩
      · rw [if_neg q2] at hi hj
        exact old (i - 1) hi hj
  · show (t.put (way t.mask h K)).1.place.size + (t.put (way t.mask h K)).1.dummies.size = _
    rw [pd, szz]
    rfl
end
theorem pw_filterMap {f : Nat → Option (Nat × Nat)} (hf : ∀ j x, f j = some x → x.1 = j) : ∀ (l : List Nat), Ris l → Ris ((l.filterMap f).map (·.1)) ∧ ∀ x ∈ (l.filterMap f).map (·.1), x ∈ l
  | [], _ => ⟨.nil, fun _ z => nomatch z⟩
  | a :: l, h => by
    obtain ⟨h1, h2⟩ := List.pairwise_cons.mp h
    obtain ⟨i1, i2⟩ := pw_filterMap hf l h2
    cases q : f a with
    | none => rw [List.filterMap_cons_none q]; exact ⟨i1, fun x hx => List.mem_cons_of_mem _ (i2 x hx)⟩
    | some x =>
      rw [List.filterMap_cons_some q, List.map_cons]
      have e := hf a x q
      refine ⟨List.pairwise_cons.mpr ⟨fun y hy => by rw [e]; exact h1 y (i2 y hy), i1⟩, fun y hy => ?_⟩
      rcases List.mem_cons.mp hy with z | z
      · rw [z, e]; exact List.mem_cons_self
      · exact List.mem_cons_of_mem _ (i2 y z)
theorem ris_live (m : Nat) (owner : Array (Option Nat)) : Ris ((liveOf m owner).map (·.1)) :=
  (pw_filterMap (f := fun j => (owner.getD j none).map fun x => (j, x)) (fun j x e => by
    cases q : owner.getD j none with
    | none => rw [q] at e; cases e
    | some y => rw [q] at e; cases e; rfl) (List.range (m + 1)) List.pairwise_lt_range).1
theorem relaid_okG (t : SetTable) {hs : Array Int} {wanted M : Nat} (eM : SetTable.sizeAbove wanted - 1 = M) (hM : MaskG M) (hl : hs.size ≤ M) :
    ∃ t' order, t.relaid hs wanted = some (t', order) ∧ order.toList.Perm (List.range hs.size) ∧
      TabG t' (order.toList.map fun i => hs.getD i 0) ∧ t'.mask = M ∧ t'.led = t.led ∧ t'.plain = t.plain ∧ t'.dummies = #[] := by
  obtain ⟨owner, e, O⟩ := layClean_okG hM hl
  refine ⟨tabOf t M owner, ((liveOf M owner).map (·.2)).toArray, ?_, ?_, ?_, rfl, rfl, rfl, rfl⟩
  · rw [relaid_eq, eM, e]; rfl
  · have ris := ris_live M owner
    have nd : ((liveOf M owner).map (·.1)).Nodup := List.Pairwise.imp (fun h => Nat.ne_of_lt h) ris
    obtain ⟨ps, lp, hp⟩ := O.ps
    have le1 := nat_nodup_len _ ps nd fun x hx => by
      obtain ⟨⟨j, k⟩, hm, rfl⟩ := List.mem_map.mp hx
      obtain ⟨h1, h2⟩ := (mem_live O.sz).mp hm
      exact hp j h1 (by rw [h2]; exact nofun)
    have all : ∀ k, k < hs.size → k ∈ (liveOf M owner).map (·.2) := fun k hk => by
      obtain ⟨j, hj, ej⟩ := O.all k (by rw [Array.length_toList]; exact hk)
      exact List.mem_map.mpr ⟨(j, k), (mem_live O.sz).mpr ⟨hj, ej⟩, rfl⟩
    have le2 := nat_nodup_len (List.range hs.size) ((liveOf M owner).map (·.2)) List.nodup_range fun x hx => all x (List.mem_range.mp hx)
    rw [List.length_map] at le1 le2
    rw [List.length_range] at le2
    rw [lp, Array.length_toList (xs := hs)] at le1
    exact perm_range _ _ (by show ((liveOf M owner).map (·.2)).length = _; rw [List.length_map]; omega) all
  · refine ⟨ris_live M owner, rfl, by show ((liveOf M owner).map (·.1)).toArray.size = _; simp, hM, fun x hx => ?_, fun i h j hi hj => ?_⟩
    · obtain ⟨⟨j, k⟩, hm, rfl⟩ := List.mem_map.mp hx
      exact ((mem_live O.sz).mp hm).1
    · have hi : (((liveOf M owner).map (·.2)).map fun i => hs.getD i 0)[i]? = some h := hi
      have hj : ((liveOf M owner).map (·.1))[i]? = some j := hj
      rw [List.getElem?_map] at hj
      rw [List.map_map, List.getElem?_map] at hi
      cases q : (liveOf M owner)[i]? with
      | none => rw [q] at hj; cases hj
      | some x =>
        obtain ⟨j', k⟩ := x
        rw [q] at hi hj
        injection hj with hj
        injection hi with hi
        have hj : j' = j := hj
        subst hj
        have hi : hs.getD k 0 = h := hi
        obtain ⟨h1, h2⟩ := (mem_live O.sz).mp (List.mem_of_getElem? q)
        obtain ⟨h', K, e1, e2, e3⟩ := O.at_ j' k h1 h2
        have e4 : h' = h := by
          rw [Array.getElem?_toList] at e1
          rw [← hi, Array.getD_eq_getD_getElem?, e1]
          rfl
        subst e4
        refine ⟨K, e2, fun k' hk' => ?_⟩
        show way M h' k' ∈ (liveOf M owner).map (·.1)
        cases q2 : oAt owner (way M h' k') with
        | none => exact absurd q2 (e3 k' hk')
        | some z => exact List.mem_map.mpr ⟨(_, z), (mem_live O.sz).mpr ⟨way_leG M h' k', q2⟩, rfl⟩
end SG

/-! Sets whose elements are objects of a kind: an element sought, put in, the table laid anew. -/
namespace SG
open PySem PySem.Spec L2
/-- what a set asks of the kind of its elements -/
structure SKind (P : Program) (w : World) (K : Type) [DecidableEq K] where
  is : Heap → K → Addr → Prop
  hash : K → Int
  room : Nat
  keep : ∀ {h h' : Heap} {k : K} {a : Addr}, is h k a → (∀ c o, h.get? c = some o → o.cls = .type "tuple" → h'.get? c = some o) → is h' k a
  pyHash : ∀ {A : Around} {E : Value → Shared → Prop} {s : Shared} {k : K} {a : Addr} {Q : Int → Shared → Prop},
    A.units + room < cLine → is s.heap k a → (∀ tk, Q (hash k) { s with toks := tk }) → wpAny (model P w) A (PySem.pyHash (.ref a)) Q E s
  eqB : ∀ {A : Around} {E : Value → Shared → Prop} {s : Shared} {x y : K} {a b : Addr} {Q : Bool → Shared → Prop},
    A.units + room < cLine → is s.heap x a → is s.heap y b → (∀ tk, Q (decide (x = y)) { s with toks := tk }) → wpAny (model P w) A (eqBool (.ref a) (.ref b)) Q E s
  byVal : ∀ {A : Around} {E : Value → Shared → Prop} {s : Shared} {k : K} {a : Addr} {Q : Bool → Shared → Prop},
    is s.heap k a → Q true s → wpAny (model P w) A (hashByValue 8 (.ref a)) Q E s
  seen : ∀ {A : Around} {E : Value → Shared → Prop} {s : Shared} {k : K} {b : Addr} {Q : Bool → Shared → Prop},
    is s.heap k b → ∀ {ys : List Value}, (∀ y ∈ ys, ∃ k' c, y = .ref c ∧ is s.heap k' c) → Q false s →
    wpAny (model P w) A (searchCouldBeSeen (.ref b) ys) Q E s
section
variable {P : Program} {w : World} {K : Type} [DecidableEq K] (knd : SKind P w K)
def rowsG (L : List (Addr × K)) : List (Int × Value) := L.map fun p => (knd.hash p.2, .ref p.1)
structure SetG (h : Heap) (a : Addr) (L : List (Addr × K)) (es : Array (Int × Value)) (ep : Nat) (t : SetTable) : Prop where
  ob : ∃ o, h.get? a = some o ∧ o.ExactSet ∧ o.data = .set es ep t
  rows : es.toList = rowsG knd L
  tab : TabG t (L.map fun p => knd.hash p.2)
  nd : (L.map (·.2)).Nodup
  tup : ∀ p ∈ L, knd.is h p.2 p.1
  plain : t.plain = true
  led : w.params.followText "set-order" = true ∨ t.led = true
  room : L.length * 5 < t.mask * 3
  few : L.length < 2048
variable {knd}
theorem nth_dummy (m : Nat) (p : SetTable.Probe) (hp : p.dummy = none) : ∀ k, (nth m p k).dummy = none
  | 0 => hp
  | k + 1 => by
    rw [nth_succ]
    have := nth_dummy m p hp k
    unfold adv
    split <;> exact this
section
variable {A : Around} {E : Value → Shared → Prop} {s : Shared} {a : Addr} {L : List (Addr × K)} {es : Array (Int × Value)} {ep : Nat} {t : SetTable}
  (R : SetG knd s.heap a L es ep t)
include R
theorem SetG.size : es.size = L.length := by
  rw [← Array.length_toList, R.rows]; exact List.length_map _
theorem SetG.fits : t.fits es.size = true := by
  have h1 := R.tab.sz
  rw [List.length_map] at h1
  have h2 := R.size
  have h3 := R.room
  unfold SetTable.fits SetTable.fill
  rw [R.tab.dm, h1, h2]
  simp
  omega
theorem SetG.gw : ¬ t.gaveWay = true := by
  have := R.tab.mok.odd
  unfold SetTable.gaveWay
  rw [this]
  decide
theorem SetG.entry {i : Nat} {p : Addr × K} (h : L[i]? = some p) : es[i]? = some (knd.hash p.2, .ref p.1) := by
  rw [← Array.getElem?_toList, R.rows]
  unfold rowsG
  rw [List.getElem?_map, h]
  rfl
theorem SetG.at_place {i j : Nat} (h : t.place.toList[i]? = some j) : ∃ p, L[i]? = some p := by
  have h1 := (List.getElem?_eq_some_iff.mp h).1
  have h2 := R.tab.sz
  rw [List.length_map] at h2
  rw [Array.length_toList, h2] at h1
  exact ⟨L[i], List.getElem?_eq_getElem h1⟩
theorem SetG.toks (tk : Nat) : SetG knd ({ s with toks := tk } : Shared).heap a L es ep t := R
theorem wpAny_state {Q : Array (Int × Value) × Nat × SetTable → Shared → Prop} (q : Q (es, ep, t) s) : wpAny (model P w) A (setState a) Q E s := by
  obtain ⟨o, h1, _, h3⟩ := R.ob
  exact wpAny_setState_of h1 h3 R.fits q
theorem seek_from {x : Addr} {k : K} (hx : knd.is s.heap k x) (hu : A.units + knd.room < cLine) {N : Nat} (hlt : N < 10 * SetTable.turns t.mask)
    (hN : way t.mask (knd.hash k) N ∉ t.place.toList) (hb : ∀ c, c < N → way t.mask (knd.hash k) c ∈ t.place.toList) {Q : SetFound → Shared → Prop}
    (q1 : k ∈ L.map (·.2) → ∀ tk, Q (.there none) { s with toks := tk })
    (q2 : k ∉ L.map (·.2) → ∀ tk, Q (.free (way t.mask (knd.hash k) N) false) { s with toks := tk }) :
    ∀ (f c : Nat) (stand : Option SetTable.Probe) (tk : Nat),
      stand.getD (t.probeStart (knd.hash k)) = nth t.mask (runAt t.mask (SetTable.bits (knd.hash k) % (t.mask + 1)) (SetTable.bits (knd.hash k))) c →
      c ≤ N → N - c < f → (∀ (i : Nat) (p : Addr × K), L[i]? = some p → p.2 = k → ∃ c', c ≤ c' ∧ c' < N ∧ t.place.toList[i]? = some (way t.mask (knd.hash k) c')) →
      wpAny (model P w) A (setSearchFrom a (.ref x) (knd.hash k) true f stand) Q E { s with toks := tk }
  | 0, c, stand, tk, _, _, h, _ => absurd h (Nat.not_lt_zero _)
  | f + 1, c, stand, tk, est, hc, hf, hi => by
    rw [setSearchFrom_succ]
    refine wpAny_bind (wpAny_state (R.toks tk) ?_)
    dsimp only
    rw [if_neg R.gw]
    generalize hst : runAt t.mask (SetTable.bits (knd.hash k) % (t.mask + 1)) (SetTable.bits (knd.hash k)) = st at *
    have wy : ∀ c, way t.mask (knd.hash k) c = (nth t.mask st c).j := fun c => by rw [← hst]
    have sd : st.dummy = none := by rw [← hst]; rfl
    rw [est]
    have hp : ∀ k', nth t.mask (nth t.mask st c) k' = nth t.mask st (c + k') := fun k' => (nth_add t.mask c st k').symm
    have G := go_spec t R.tab.ris R.tab.dm (fun i => (Option.map (fun x => x.fst) es[i]?).getD 0) (knd.hash k) (10 * SetTable.turns t.mask) (N - c) (nth t.mask st c)
      (nth_dummy _ _ sd c) (by omega) (fun k' hk' => by rw [hp, ← wy]; exact hb _ (by omega)) (by rw [hp, ← wy, show c + (N - c) = N by omega]; exact hN)
    have hash_at : ∀ {i : Nat} {p : Addr × K}, L[i]? = some p → (Option.map (fun x => x.fst) es[i]?).getD 0 = knd.hash p.2 := fun h => by rw [R.entry h]; rfl
    show wpAny (model P w) A (match SetTable.probe.go t (fun i => (Option.map (fun x => x.fst) es[i]?).getD 0) (knd.hash k) (10 * SetTable.turns t.mask) (nth t.mask st c) with | some met => _ | _ => _) Q E _
    rcases G with ⟨k', i, hk', pl, hh, hbef, eg⟩ | ⟨hnone, eg⟩
    · rw [eg]
      dsimp only
      rw [hp] at pl
      obtain ⟨p, ep1⟩ := R.at_place pl
      have ent := R.entry ep1
      have mem : p ∈ L := List.mem_of_getElem? ep1
      have rest : wpAny (model P w) A (searchRest a (.ref x) (knd.hash k) true f es t (nth t.mask (nth t.mask st c) k').j i (nth t.mask (nth t.mask st c) (k' + 1))) Q E { s with toks := tk } := by
        unfold searchRest
        rw [ent]
        dsimp only
        refine wpAny_bind (wpAny_holding (knd.eqB hu (R.tup p mem) hx fun tk2 => ?_))
        refine wpAny_bind (wpAny_state (R.toks tk2) ?_)
        dsimp only
        by_cases q : p.2 = k
        · rw [if_pos (by simp [q])]
          exact wpAny_pure (q1 (List.mem_map.mpr ⟨p, mem, q⟩) tk2)
        · rw [if_neg (by simp [q]), sameMem]
          dsimp only
          rw [if_pos rfl, hp, slot_live R.tab.ris pl]
          dsimp only
          rw [ent]
          dsimp only
          refine wpAny_bind (wpAny_isSame_ref_self ?_)
          refine wpAny_bind (wpAny_pure ?_)
          rw [if_pos rfl]
          dsimp only
          rw [if_neg (by simp [q])]
          refine seek_from hx hu hlt hN hb q1 q2 f (c + k' + 1) _ tk2 ?_ (by omega) (by omega) (fun i' p' e1 e2 => ?_)
          · rw [hst]
            show nth t.mask (nth t.mask st c) (k' + 1) = _
            rw [hp]
            rfl
          · obtain ⟨c', g1, g2, g3⟩ := hi i' p' e1 e2
            refine ⟨c', ?_, g2, g3⟩
            rcases Nat.lt_or_ge c' (c + k' + 1) with z | z
            · exfalso
              rcases Nat.lt_or_eq_of_le (Nat.lt_succ_iff.mp z) with z | z
              · refine hbef (c' - c) i' (by omega) ?_ (by rw [hash_at e1, e2])
                rw [hp, show c + (c' - c) = c' by omega, g3, wy]
              · rw [z, wy] at g3
                have h1 := (List.getElem?_eq_some_iff.mp pl)
                have h2 := (List.getElem?_eq_some_iff.mp g3)
                obtain ⟨l1, v1⟩ := h1
                obtain ⟨l2, v2⟩ := h2
                have ei : i = i' := by
                  have pw := List.pairwise_iff_getElem.mp R.tab.ris
                  rcases Nat.lt_trichotomy i i' with z2 | z2 | z2
                  · have := pw i i' l1 l2 z2
                    omega
                  · exact z2
                  · have := pw i' i l2 l1 z2
                    omega
                subst ei
                rw [ep1] at e1
                injection e1 with e1
                subst e1
                exact q e2
            · exact z
      split
      · refine wpAny_bind (knd.seen (s := { s with toks := tk }) hx (fun y hy => ?_) ?_)
        · obtain ⟨e, he, rfl⟩ := List.mem_map.mp hy
          have he := (Array.mem_filter.mp (Array.mem_toList_iff.mp he)).1
          have he := Array.mem_toList_iff.mpr he
          rw [R.rows] at he
          obtain ⟨p', hp', rfl⟩ := List.mem_map.mp he
          exact ⟨p'.2, p'.1, rfl, R.tup p' hp'⟩
        · rw [if_neg (by decide)]
          exact rest
      · exact rest
    · rw [eg]
      dsimp only
      rw [hp, show c + (N - c) = N by omega, ← wy]
      refine wpAny_pure (q2 (fun z => ?_) tk)
      obtain ⟨p, hp2, e⟩ := List.mem_map.mp z
      obtain ⟨i, l, v⟩ := List.mem_iff_getElem.mp hp2
      have hg : L[i]? = some p := by rw [List.getElem?_eq_getElem l, v]
      obtain ⟨c', g1, g2, g3⟩ := hi i p hg e
      refine hnone (c' - c) i (by omega) ?_ (by rw [hash_at hg, e])
      rw [hp, show c + (c' - c) = c' by omega, g3, wy]
theorem seek_at {x : Addr} {k : K} (hx : knd.is s.heap k x) (hu : A.units + knd.room < cLine) {Q : SetFound → Shared → Prop}
    (q1 : k ∈ L.map (·.2) → ∀ tk, Q (.there none) { s with toks := tk })
    (q2 : ∀ N, k ∉ L.map (·.2) → way t.mask (knd.hash k) N ∉ t.place.toList → (∀ c, c < N → way t.mask (knd.hash k) c ∈ t.place.toList) →
      ∀ tk, Q (.free (way t.mask (knd.hash k) N) false) { s with toks := tk }) :
    wpAny (model P w) A (setSearch a (.ref x) (knd.hash k) true) Q E s := by
  have hl : (L.map fun p => knd.hash p.2).length ≤ t.mask := by rw [List.length_map]; have := R.room; omega
  obtain ⟨N, n1, n2, n3⟩ := R.tab.first hl (knd.hash k)
  have ml := R.tab.mok.le
  have fu : N - 0 < 100000 := by unfold SetTable.turns at n1; omega
  unfold setSearch
  generalize (100000 : Nat) = F at fu ⊢
  refine seek_from R hx hu n1 n2 n3 q1 (fun z tk => q2 N z n2 n3 tk) F 0 none s.toks rfl (Nat.zero_le _) fu (fun i p e1 e2 => ?_)
  have h1 : (L.map fun p => knd.hash p.2)[i]? = some (knd.hash k) := by rw [List.getElem?_map, e1, ← e2]; rfl
  have h2 : i < t.place.toList.length := by
    rw [Array.length_toList, R.tab.sz]
    exact (List.getElem?_eq_some_iff.mp h1).1
  obtain ⟨c, g1, g2⟩ := R.tab.before n2 h1 (List.getElem?_eq_getElem h2)
  exact ⟨c, Nat.zero_le _, g1, by rw [List.getElem?_eq_getElem h2, g2]⟩
end
end
end SG

/-! An element put into a set, and the table laid anew. -/
namespace SG
open PySem PySem.Spec L2
theorem go_pow {n : Nat} (hn : n ≤ 8188) : ∀ (f j : Nat), j ≤ 13 → 13 - j < f → ∃ k, j ≤ k ∧ k ≤ 13 ∧ SetTable.sizeAbove.go n f (2 ^ j) = 2 ^ k ∧ n < 2 ^ k
  | 0, j, _, h => absurd h (Nat.not_lt_zero _)
  | f + 1, j, hj, hf => by
    rw [SetTable.sizeAbove.go]
    by_cases q : 2 ^ j ≤ n
    · rw [if_pos q]
      have : j ≠ 13 := fun z => by rw [z] at q; have : (2 : Nat) ^ 13 = 8192 := rfl; omega
      obtain ⟨k, h1, h2, h3, h4⟩ := go_pow hn f (j + 1) (by omega) (by omega)
      exact ⟨k, by omega, h2, by rw [← h3, Nat.pow_succ], h4⟩
    · rw [if_neg q]
      exact ⟨j, Nat.le_refl _, hj, rfl, by omega⟩
theorem above {n : Nat} (hn : n ≤ 8188) : MaskG (SetTable.sizeAbove n - 1) ∧ n < SetTable.sizeAbove n ∧ SetTable.sizeAbove n ≤ 8192 := by
  obtain ⟨k, h1, h2, h3, h4⟩ := go_pow hn 64 3 (by decide) (by decide)
  have h3 : SetTable.sizeAbove n = 2 ^ k := h3
  rw [h3]
  refine ⟨⟨k, h1, h2, by omega⟩, h4, ?_⟩
  have : 2 ^ k ≤ 2 ^ 13 := Nat.pow_le_pow_right (by decide) h2
  omega
theorem range_get {α : Type} : ∀ (L : List α), (List.range L.length).filterMap (fun i => L[i]?) = L
  | [] => rfl
  | a :: L => by
    rw [List.length_cons, List.range_succ_eq_map, List.filterMap_cons]
    have e0 : (a :: L)[0]? = some a := rfl
    rw [e0]
    dsimp only
    rw [List.filterMap_map]
    congr 1
    exact range_get L
section
variable {P : Program} {w : World} {K : Type} [DecidableEq K] {knd : SKind P w K}
theorem order_rowsG (L : List (Addr × K)) (es : Array (Int × Value)) (order : Array Nat) (hr : es.toList = rowsG knd L) (hp : order.toList.Perm (List.range L.length)) :
    ∃ L2, (order.filterMap fun x => es[x]?).toList = rowsG knd L2 ∧ L2.Perm L ∧
      L2.map (fun p => knd.hash p.2) = order.toList.map fun i => (es.map (·.1)).getD i 0 := by
  have ge : ∀ i, es[i]? = (L[i]?).map fun (p : Addr × K) => (knd.hash p.2, Value.ref p.1) := fun i => by
    rw [← Array.getElem?_toList, hr]
    unfold rowsG
    rw [List.getElem?_map]
  refine ⟨order.toList.filterMap fun i => L[i]?, ?_, ?_, ?_⟩
  · rw [Array.toList_filterMap]
    unfold rowsG
    rw [List.map_filterMap]
    congr 1
    funext i
    exact ge i
  · have := hp.filterMap fun i => L[i]?
    rw [range_get] at this
    exact this
  · have : ∀ l : List Nat, (∀ i ∈ l, i < L.length) → (l.filterMap fun i => L[i]?).map (fun p => knd.hash p.2) = l.map fun i => (es.map (·.1)).getD i 0 := by
      intro l
      induction l with
      | nil => intro _; rfl
      | cons i l ih =>
        intro h
        have hi := h i List.mem_cons_self
        rw [List.filterMap_cons_some (b := L[i]) (List.getElem?_eq_getElem hi), List.map_cons, List.map_cons, ih fun j hj => h j (List.mem_cons_of_mem _ hj)]
        congr 1
        rw [Array.getD_eq_getD_getElem?, Array.getElem?_map, ge, List.getElem?_eq_getElem hi]
        rfl
    exact this _ fun i hi => List.mem_range.mp (hp.mem_iff.mp hi)
theorem keep_same {h h' : Heap} {a : Addr} {o : Obj} (ho : h.get? a = some o) (hs : o.cls = .type "set") (sb : Heap.SameBut a h h') {k : K} {b : Addr} (hk : knd.is h k b) : knd.is h' k b :=
  knd.keep hk fun c o' hc ht => by
    rw [sb.2 c fun z => ?_]
    · exact hc
    · subst z
      rw [ho] at hc
      injection hc with hc
      subst hc
      rw [hs] at ht
      injection ht with ht
      exact absurd ht (by decide)
section
variable {A : Around} {E : Value → Shared → Prop} {s : Shared} {a : Addr} {L : List (Addr × K)} {es : Array (Int × Value)} {ep : Nat} {t : SetTable}
theorem relay_atG {o : Obj} (ho : s.heap.get? a = some o) (hx : o.ExactSet) (hd : o.data = .set es ep t) (hr : es.toList = rowsG knd L) (hsz : t.place.size = es.size)
    (hdm : t.dummies = #[]) (hm : es.size ≤ t.mask) (hnd : (L.map (·.2)).Nodup) (ht : ∀ p ∈ L, knd.is s.heap p.2 p.1) (hpl : t.plain = true)
    (hled : w.params.followText "set-order" = true ∨ t.led = true) (hf : L.length < 2048) (h1 : 1 ≤ L.length) {Q : Unit → Shared → Prop}
    (q : ∀ h' L' es' ep' t', Heap.SameBut a s.heap h' → SetG knd h' a L' es' ep' t' → L'.Perm L → Q () { s with heap := h' }) :
    wpAny (model P w) A (setRelay a (SetTable.grown L.length)) Q E s := by
  have eg : SetTable.grown L.length = L.length * 4 := by unfold SetTable.grown; rw [if_neg (by omega)]
  obtain ⟨M1, M2, M3⟩ := above (n := SetTable.grown L.length) (by rw [eg]; omega)
  have len : es.size = L.length := by rw [← Array.length_toList, hr]; exact List.length_map _
  rw [setRelay_eq]
  refine wpAny_bind (wpAny_setState_of ho hd (by unfold SetTable.fits SetTable.fill; rw [hsz, hdm]; simp; exact hm) ?_)
  dsimp only
  rw [if_neg (by rw [sizeLine_eq]; omega)]
  obtain ⟨t', order, e, pm, T, m1, m2, m3, m4⟩ := relaid_okG t (hs := es.map (·.1)) (wanted := SetTable.grown L.length) rfl M1 (by rw [Array.size_map, len]; omega)
  rw [Array.size_map, len] at pm
  obtain ⟨L2, r1, r2, r3⟩ := order_rowsG L es order hr pm
  rw [e]
  dsimp only
  have sz : (order.filterMap fun x => es[x]?).size = es.size := by
    rw [← Array.length_toList, r1, len]
    unfold rowsG
    rw [List.length_map, r2.length_eq]
  rw [if_neg (by rw [sz]; simp)]
  refine wpAny_bind (wpAny_pure ?_)
  dsimp only
  refine wpAny_storeSet_of ho hd ?_ (by rw [sz, len, sizeLine_eq]; omega)
  have sb := Heap.SameBut.update s.heap a (Obj.putSet (order.filterMap fun x => es[x]?) t')
  have hp : Obj.putSet (order.filterMap fun x => es[x]?) t' o = { o with data := .set (order.filterMap fun x => es[x]?) (ep + 1) t' } := by
    obtain ⟨c, d, dt, sl⟩ := o
    have hd : dt = .set es ep t := hd
    subst hd
    rfl
  have hg := Heap.get?_update_self (Obj.putSet (order.filterMap fun x => es[x]?) t') ho (by
    rw [hp]
    rfl)
  refine q _ L2 _ (ep + 1) t' sb ⟨⟨_, hg, ?_, ?_⟩, r1, by rw [r3]; exact T, (r2.map (·.2)).nodup_iff.mpr hnd, fun p hp2 => keep_same ho hx.1 sb (ht p (r2.mem_iff.mp hp2)), m3.trans hpl, ?_, ?_, by rw [r2.length_eq]; exact hf⟩ r2
  · rw [hp]; exact hx
  · rw [hp]
  · rw [m2]; exact hled
  · rw [m1, r2.length_eq]; rw [eg] at M2 M3 ⊢; omega
end
end
end SG

/-! An element put into a set. -/
namespace SG
open PySem PySem.Spec L2
section
variable {P : Program} {w : World} {K : Type} [DecidableEq K] {knd : SKind P w K}
variable {A : Around} {E : Value → Shared → Prop} {s : Shared} {a : Addr} {L : List (Addr × K)} {es : Array (Int × Value)} {ep : Nat} {t : SetTable}
theorem put_obj (o : Obj) (hd : o.data = .set es ep t) (es' : Array (Int × Value)) (t' : SetTable) : Obj.putSet es' t' o = { o with data := .set es' (ep + 1) t' } := by
  obtain ⟨c, d, dt, sl⟩ := o
  have hd : dt = .set es ep t := hd
  subst hd
  rfl
theorem add_atG (R : SetG knd s.heap a L es ep t) {x : Addr} {k : K} (hx : knd.is s.heap k x) (hu : A.units + knd.room < cLine) (hl : L.length + 1 < 2048) {Q : Bool → Shared → Prop}
    (q : ∀ b h' L' es' ep' t' tk, Heap.SameBut a s.heap h' → SetG knd h' a L' es' ep' t' → (k ∈ L.map (·.2) → L' = L) → (k ∉ L.map (·.2) → L'.Perm ((x, k) :: L)) →
      Q b { s with heap := h', toks := tk }) :
    wpAny (model P w) A (setAddHashed a (.ref x) (knd.hash k)) Q E s := by
  unfold setAddHashed
  refine wpAny_holding ?_
  rw [show (100000 : Nat) = 99999 + 1 from rfl, setAddHashedIn_succ]
  generalize (99999 : Nat) = F
  refine wpAny_bind (wpAny_state R ?_)
  dsimp only
  rw [if_neg (by simp [byScan, Value.scannable])]
  refine wpAny_bind (seek_at R hx hu (fun mem tk => ?_) (fun N nm n2 n3 tk => ?_))
  · exact wpAny_pure (q false s.heap L es ep t tk ⟨rfl, fun _ _ => rfl⟩ R (fun _ => rfl) fun z => absurd mem z)
  · dsimp only
    refine wpAny_bind (wpAny_state (R.toks tk) ?_)
    dsimp only
    obtain ⟨p1, p2, T, p4, p5, p6, p7⟩ := R.tab.put n2 n3
    have pdm := put_dm R.tab.dm (way t.mask (knd.hash k) N)
    have szT := T.sz
    obtain ⟨t1, p0⟩ : ∃ z, t.put (way t.mask (knd.hash k) N) = z := ⟨_, rfl⟩
    generalize ht1 : t.put (way t.mask (knd.hash k) N) = tp at *
    obtain ⟨t1, p⟩ := tp
    dsimp only at p1 T p4 p5 p6 p7 pdm szT ⊢
    rw [← p1] at p2 T szT
    clear p0
    have lenH : (L.map fun p => knd.hash p.2).length = L.length := List.length_map _
    rw [lenH] at p2 p7
    rw [if_pos (p6.trans R.plain)]
    refine wpAny_bind (knd.byVal hx ?_)
    rw [if_pos rfl]
    obtain ⟨o, ho, hxo, hd⟩ := R.ob
    have esz := R.size
    have insL : (SetTable.insertAt es p (knd.hash k, Value.ref x)).toList = rowsG knd (L.take p ++ (x, k) :: L.drop p) := by
      rw [SetTable.toList_insertAt, R.rows]
      unfold rowsG
      rw [List.map_append, List.map_cons, List.map_take, List.map_drop]
    have lenL : (L.take p ++ (x, k) :: L.drop p).length = L.length + 1 := len_ins _ p2 _
    have pmL := put_perm L p (x, k)
    have szI : (SetTable.insertAt es p (knd.hash k, Value.ref x)).size = L.length + 1 := by
      rw [← Array.length_toList, insL]
      unfold rowsG
      rw [List.length_map, lenL]
    have hsL : (L.take p ++ (x, k) :: L.drop p).map (fun p => knd.hash p.2) = (L.map fun p => knd.hash p.2).take p ++ knd.hash k :: (L.map fun p => knd.hash p.2).drop p := by
      rw [List.map_append, List.map_cons, List.map_take, List.map_drop]
    refine wpAny_bind (wpAny_storeSet_of ho hd ?_ (by rw [szI, sizeLine_eq]; omega))
    have sb := Heap.SameBut.update s.heap a (Obj.putSet (SetTable.insertAt es p (knd.hash k, Value.ref x)) t1)
    have po := put_obj o hd (SetTable.insertAt es p (knd.hash k, Value.ref x)) t1
    have hg := Heap.get?_update_self (Obj.putSet (SetTable.insertAt es p (knd.hash k, Value.ref x)) t1) ho (by rw [po]; rfl)
    rw [po] at hg
    have ndL : ((L.take p ++ (x, k) :: L.drop p).map (·.2)).Nodup := by
      rw [(pmL.map (·.2)).nodup_iff, List.map_cons]
      exact List.nodup_cons.mpr ⟨nm, R.nd⟩
    have tupL : ∀ q ∈ (L.take p ++ (x, k) :: L.drop p), knd.is (s.heap.update a (Obj.putSet (SetTable.insertAt es p (knd.hash k, Value.ref x)) t1)) q.2 q.1 := fun q hq => by
      refine keep_same ho hxo.1 sb ?_
      rcases List.mem_cons.mp (pmL.mem_iff.mp hq) with z | z
      · rw [z]; exact hx
      · exact R.tup q z
    have led1 : w.params.followText "set-order" = true ∨ t1.led = true := by rw [p5]; exact R.led
    have plain1 : t1.plain = true := p6.trans R.plain
    have szp : t1.place.size = L.length + 1 := by
      have : t1.fill = t1.place.size + t1.dummies.size := rfl
      rw [pdm] at this
      rw [p7] at this
      exact this.symm
    have few : (L.take p ++ (x, k) :: L.drop p).length < 2048 := by rw [lenL]; exact hl
    by_cases full : t1.tooFull = true
    · rw [if_pos (by rw [full]; rfl)]
      rw [esz, ← lenL]
      refine wpAny_bind (relay_atG (s := { s with heap := s.heap.update a (Obj.putSet (SetTable.insertAt es p (knd.hash k, Value.ref x)) t1), toks := tk }) hg ?_ rfl insL (by rw [szp, szI]) pdm ?_ ndL tupL plain1 led1 few (by rw [lenL]; omega) fun h' L' es' ep' t' sb2 R2 pm2 => ?_)
      · exact hxo
      · have := R.room
        rw [szI, p4]; omega
      · refine wpAny_pure (q true h' L' es' ep' t' tk ⟨sb2.1.trans sb.1, fun b hb => (sb2.2 b hb).trans (sb.2 b hb)⟩ R2 (fun z => absurd z nm) fun _ => pm2.trans pmL)
    · rw [if_neg (by rw [Bool.not_eq_true] at full; rw [full]; decide)]
      refine wpAny_pure (q true _ _ _ (ep + 1) t1 tk sb ⟨⟨_, hg, hxo, rfl⟩, insL, by rw [hsL]; exact T, ndL, tupL, plain1, led1, ?_, few⟩ (fun z => absurd z nm) fun _ => pmL)
      have : ¬ (t1.fill * 5 ≥ t1.mask * 3) := fun z => full (decide_eq_true z)
      rw [p7] at this
      rw [lenL]
      omega
theorem SetG.keep {h h' : Heap} (R : SetG knd h a L es ep t) (ha : ∀ o, h.get? a = some o → h'.get? a = some o) (ht : ∀ p ∈ L, knd.is h' p.2 p.1) : SetG knd h' a L es ep t := by
  obtain ⟨⟨o, ho, hx⟩, h2, h3, h4, h5, h6, h7, h8, h9⟩ := R
  exact ⟨⟨o, ha o ho, hx⟩, h2, h3, h4, ht, h6, h7, h8, h9⟩
/-- what a walk over `ks` has put in after `i` of them -/
structure GotG (ks : List (Addr × K)) (i : Nat) (L : List (Addr × K)) : Prop where
  sub : ∀ p ∈ L, p ∈ ks.take i
  all : ∀ p ∈ ks.take i, p.2 ∈ L.map (·.2)
  len : L.length ≤ i
theorem setG_fresh {h : Heap} (hh : h.get? a = some { cls := .type "set", data := .set #[] 0 (SetTable.fresh 0 0 !w.params.followText "set-order") }) :
    SetG knd h a [] #[] 0 (SetTable.fresh 0 0 !w.params.followText "set-order") :=
  ⟨⟨_, hh, ⟨rfl, rfl, rfl⟩, rfl⟩, rfl, ⟨.nil, rfl, rfl, ⟨3, by decide, by decide, rfl⟩, fun _ z => (nomatch z), fun _ _ _ z _ => (nomatch z)⟩, .nil, fun _ z => (nomatch z), rfl, by
    cases q : w.params.followText "set-order"
    · exact .inr rfl
    · exact .inl rfl, (by decide : 0 * 5 < 7 * 3), (by decide : 0 < 2048)⟩
theorem update_loop {I : Addr} {fp wr : List Addr} {G : Array GenState → Array GenState → Prop} {n : Nat} {Pv : Nat → Value → Prop} {St : Nat → Shared → Prop} {R : Result → Shared → Prop}
    (W : WalksS P w A.in1 I fp wr G n Pv St) (S : Addr) (hS : S ∉ fp) (ks : List (Addr × K)) (hn : n = ks.length) (hf : ks.length < 2048)
    (hv : ∀ i v, Pv i v → ∃ p, ks[i]? = some p ∧ v = .ref p.1) (h0 : Heap) (hk : ∀ p ∈ ks, knd.is h0 p.2 p.1) (hS0 : h0.get? S = none) (hw : ∀ b ∈ wr, h0.get? b = none)
    (hu : A.in1.units + knd.room < cLine) :
    ∀ (k i : Nat) (s : Shared), n - i = k → i ≤ n → St i s → (∀ b o, h0.get? b = some o → s.heap.get? b = some o) →
      (∃ L es ep t, SetG knd s.heap S L es ep t ∧ GotG ks i L) →
      (∀ s' L es ep t, Moved (S :: wr) G s s' → SetG knd s'.heap S L es ep t → GotG ks n L → (∀ b o, h0.get? b = some o → s'.heap.get? b = some o) → R (.ok (.ret .none)) s') →
      codeAny (model P w) A (.builtin "set.update.loop" { pos := [.ref S, .ref I] }) R s := by
  have back : ∀ {s' : Shared} {i : Nat} {L : List (Addr × K)}, GotG ks i L → (∀ b o, h0.get? b = some o → s'.heap.get? b = some o) → ∀ p ∈ L, knd.is s'.heap p.2 p.1 :=
    fun GT hk' p hp => knd.keep (hk p (List.mem_of_mem_take (GT.sub p hp))) fun c o e _ => hk' c o e
  have nS : S ∉ wr := fun z => hS (W.sub S z)
  intro k
  induction k with
  | zero =>
    intro i s e hi st k0 ⟨L, es, ep, t, RS, GT⟩ r
    have : i = n := by omega
    subst this
    refine codeAny_builtin PyProof.Rows.F.entry_set_update_loop ?_
    unfold Builtin.«set.update.loop»
    refine wpAny_bind (W.done s _ _ st fun s' mv => ?_)
    dsimp only
    have k1 : ∀ b o, h0.get? b = some o → s'.heap.get? b = some o := fun b o e => mv.heap b o (fun z => by rw [hw b z] at e; cases e) (k0 b o e)
    exact wpAny_pure (r s' L es ep t ⟨fun b o hb => mv.heap b o fun z => hb (List.mem_cons_of_mem _ z), mv.gens, mv.drawn, mv.os, mv.toks⟩
      (RS.keep (fun o ho => mv.heap S o nS ho) (back GT k1)) GT k1)
  | succ k ih =>
    intro i s e hi st k0 ⟨L, es, ep, t, RS, GT⟩ r
    refine codeAny_builtin PyProof.Rows.F.entry_set_update_loop ?_
    unfold Builtin.«set.update.loop»
    refine wpAny_bind (W.item i s _ _ (by omega) st fun v s1 pv st1 mv => ?_)
    dsimp only
    have k1 : ∀ b o, h0.get? b = some o → s1.heap.get? b = some o := fun b o e => mv.heap b o (fun z => by rw [hw b z] at e; cases e) (k0 b o e)
    have R1 := RS.keep (fun o ho => mv.heap S o nS ho) (back GT k1)
    obtain ⟨p, hp, ev⟩ := hv i v pv
    subst ev
    have hpk : p ∈ ks := List.mem_of_getElem? hp
    have hx : knd.is s1.heap p.2 p.1 := knd.keep (hk p hpk) fun c o e _ => k1 c o e
    have lL := GT.len
    have add : wpAny (model P w) (A.under (.builtin "set.update.loop" { pos := [.ref S, .ref I] })) (holding [.ref p.1] (setAdd S (.ref p.1)))
        (fun _ s2 => ∃ h' L' es' ep' t' tk, s2 = { s1 with heap := h', toks := tk } ∧ Heap.SameBut S s1.heap h' ∧ SetG knd h' S L' es' ep' t' ∧ (p.2 ∈ L.map (·.2) → L' = L) ∧ (p.2 ∉ L.map (·.2) → L'.Perm ((p.1, p.2) :: L)))
        (fun _ _ => False) s1 := by
      refine wpAny_holding ?_
      unfold setAdd
      refine wpAny_holding (wpAny_bind (knd.pyHash hu hx fun tk => ?_))
      exact add_atG (s := { s1 with toks := tk }) R1 hx hu (by omega) fun b h' L' es' ep' t' tk sb R2 c1 c2 => ⟨h', L', es', ep', t', tk, rfl, sb, R2, c1, c2⟩
    refine wpAny_bind (wpAny_mono (wpAny_toks add) (fun b s2 hq => ?_) (fun _ _ z => z.2.elim))
    obtain ⟨htk, h', L', es', ep', t', tk, e2, sb, R2, c1, c2⟩ := hq
    subst e2
    have kp : ∀ b o, h0.get? b = some o → h'.get? b = some o := fun b o e => by
      rw [sb.2 b fun z => by rw [z, hS0] at e; cases e]
      exact k1 b o e
    have GT2 : GotG ks (i + 1) L' := by
      have ts : ks.take (i + 1) = ks.take i ++ [p] := by rw [List.take_succ, hp]; rfl
      by_cases q : p.2 ∈ L.map (·.2)
      · have c1 := c1 q
        subst c1
        exact ⟨fun y hy => by rw [ts]; exact List.mem_append_left _ (GT.sub y hy), fun y hy => by
          rw [ts] at hy
          rcases List.mem_append.mp hy with z | z
          · exact GT.all y z
          · rw [List.mem_singleton.mp z]; exact q, by omega⟩
      · have c2 := c2 q
        refine ⟨fun y hy => ?_, fun y hy => ?_, by rw [c2.length_eq, List.length_cons]; omega⟩
        · rw [ts]
          rcases List.mem_cons.mp (c2.mem_iff.mp hy) with z | z
          · rw [z]; exact List.mem_append_right _ (List.mem_singleton.mpr rfl)
          · exact List.mem_append_left _ (GT.sub y z)
        · rw [(c2.map (·.2)).mem_iff, List.map_cons]
          rw [ts] at hy
          rcases List.mem_append.mp hy with z | z
          · exact List.mem_cons_of_mem _ (GT.all y z)
          · rw [List.mem_singleton.mp z]; exact List.mem_cons_self
    refine wpAny_pure ⟨plainId_quiet PyProof.Rows.F.plain_set_update_loop _, ih (i + 1) _ (by omega) (by omega) ?_ kp ⟨L', es', ep', t', R2, GT2⟩ fun s' L2 es2 ep2 t2 mv2 R3 GT3 k3 => r s' L2 es2 ep2 t2 ?_ R3 GT3 k3⟩
    · exact W.frame (i + 1) s1 h' tk st1 htk fun b hb o hbo => by
        rw [sb.2 b fun z => by rw [z] at hb; exact hS hb]
        exact hbo
    · refine ⟨fun b o hb hbo => ?_, W.gtrans _ _ _ mv.gens mv2.gens, mv2.drawn.trans mv.drawn, mv2.os.trans mv.os, Nat.le_trans mv.toks (Nat.le_trans htk mv2.toks)⟩
      refine mv2.heap b o hb ?_
      show h'.get? b = some o
      rw [sb.2 b fun z => hb (by rw [z]; exact List.mem_cons_self)]
      exact mv.heap b o (fun z => hb (List.mem_cons_of_mem _ z)) hbo
end
end SG

/-! set(list) and set(tuple). -/
namespace SG
open PySem PySem.Spec L2
section
variable {P : Program} {w : World} {K : Type} [DecidableEq K] {knd : SKind P w K}
variable {A : Around} {E : Value → Shared → Prop} {s : Shared}
theorem sub_ls : isSubtype (.type "list") (.type "set") = pure false := rfl
theorem sub_lf : isSubtype (.type "list") (.type "frozenset") = pure false := rfl
theorem sub_ts : isSubtype (.type "tuple") (.type "set") = pure false := rfl
theorem sub_tf : isSubtype (.type "tuple") (.type "frozenset") = pure false := rfl
theorem name_set : typeName (.type "set") = pure "set" := rfl
theorem call_setL {l : Addr} {items : Array Value} (ks : List (Addr × K)) {Q : Value → Shared → Prop} (hh : A.handled = none) (hl : s.heap.IsList l items)
    (hi : items.toList = ks.map fun p => .ref p.1) (hk : ∀ p ∈ ks, knd.is s.heap p.2 p.1) (hf : ks.length < 2048) (hu : A.units + 6 + knd.room < cLine)
    (q : ∀ h' tk L es ep t, SetG knd h' s.heap.objs.size L es ep t → GotG ks ks.length L → (∀ b o, s.heap.get? b = some o → h'.get? b = some o) →
      s.toks ≤ tk → Q (.ref s.heap.objs.size) { s with heap := h', toks := tk }) :
    wpAny (model P w) A (call (.type "set") [.ref l]) Q E s := by
  obtain ⟨ob, hob⟩ : ∃ ob : Obj, ob = { cls := .type "set", data := .set #[] 0 (SetTable.fresh 0 0 !w.params.followText "set-order") } := ⟨_, rfl⟩
  refine wpAny_call (codeAny_of_tree ?_)
  refine wpAny_pure ⟨Code.quiet_builtin _ (by simp), ?_⟩
  refine codeAny_builtin (b := Builtin.«type.__call__») PySem.F.entry_type_call ?_
  unfold Builtin.«type.__call__»
  dsimp only
  rw [if_neg (by rw [PySem.F.called_set.notType]; decide), if_neg (by rw [PySem.F.called_set.canCreate]; decide), PySem.F.typeCall_set_1]
  refine wpAny_bind (wpAny_pure ?_)
  obtain ⟨mc, mt, em⟩ := PySem.F.called_set.mro
  rw [em]
  refine wpAny_bind (wpAny_pure ?_)
  rw [if_neg (by simp), PySem.F.called_set.made]
  refine wpAny_bind (wpAny_pure ?_)
  dsimp only
  refine wpAny_bind (wpAny_pure ?_)
  have hg : (s.heap.push ob).get? s.heap.objs.size = some ob := Heap.get?_push_size _ (by rw [hob]; rfl)
  have ty : ({ s with heap := s.heap.push ob } : Shared).TypeIs (.ref s.heap.objs.size) "set" := by
    exact ⟨ob, hg, by rw [hob]⟩
  refine wpAny_bind (wpAny_holding (wpAny_call (code_set_led1 (Q₁ := _) _ ?_)))
  rw [← hob]
  refine wpAny_bind (wpAny_isInstance ty PySem.F.called_set.sub ?_)
  rw [if_neg (by decide)]
  refine wpAny_bind (wpAny_holding (wpAny_callSpecial?_slot ty PySem.F.called_set.init (wpAny_call (codeAny_call_builtin_at (Code.quiet_builtin _ (by simp)) PySem.F.entry_set_init (check_set_init_1 ty ?_)))))
  unfold Builtin.«set.__init__»
  refine wpAny_bind (m := noKeywords _ _) (wpAny_pure ?_)
  dsimp only
  refine wpAny_bind (m := typeNameOfCut _ _) ?_
  unfold typeNameOfCut shownTypeOf
  refine wpAny_bind (wpAny_bind (wpAny_typeOf ty ?_))
  rw [if_neg (by decide)]
  refine wpAny_pure ?_
  show wpAny _ _ (typeName (.type "set")) _ _ _
  rw [name_set]
  refine wpAny_pure (wpAny_bind (m := checkCount _ _ _ _) (wpAny_pure ?_))
  refine wpAny_bind (m := Builtin.Frozenset.addrOf _) (wpAny_pure ?_)
  have R0 : SetG knd (s.heap.push ob) s.heap.objs.size [] #[] 0 (SetTable.fresh 0 0 !w.params.followText "set-order") := setG_fresh (by rw [hg, hob])
  refine wpAny_bind (m := setUsed _) (wpAny_bind (wpAny_state (s := { s with heap := s.heap.push ob }) R0 (wpAny_pure ?_)))
  rw [if_neg (by intro z; cases z)]
  have lty : ({ s with heap := s.heap.push ob } : Shared).TypeIs (.ref l) "list" := by
    obtain ⟨o, h1, h2, _⟩ := hl
    exact ⟨o, Heap.get?_push_of_some _ h1, h2⟩
  refine wpAny_bind (m := Builtin.Frozenset.updateFrom _ _ _) ?_
  unfold Builtin.Frozenset.updateFrom Builtin.Frozenset.isAnySet
  refine wpAny_bind (m := (PySem.isInstance _ _ <||> PySem.isInstance _ _)) (wpAny_bind (wpAny_isInstance lty sub_ls ?_))
  show wpAny _ _ (PySem.isInstance (.ref l) (.type "frozenset")) _ _ _
  refine wpAny_isInstance lty sub_lf ?_
  rw [if_neg (by decide)]
  refine wpAny_bind (wpAny_typeOf lty ?_)
  rw [if_neg (by decide)]
  have hl2 : (s.heap.push ob).IsList l items := by
    obtain ⟨o, h1, h2⟩ := hl
    exact ⟨o, Heap.get?_push_of_some _ h1, h2⟩
  refine wpAny_bind (wpAny_pyIter_list hl2 ?_)
  refine wpAny_bind (wpAny_runValue ?_)
  have none_of : ∀ b, s.heap.objs.size ≤ b → s.heap.get? b = none := fun b hb => by
    cases q : s.heap.get? b with
    | none => rfl
    | some o => exact absurd (Heap.lt_size q) (Nat.not_lt.mpr hb)
  have ll : l < s.heap.objs.size := by
    obtain ⟨o, h1, _⟩ := hl
    exact Heap.lt_size h1
  have sz1 : (s.heap.push ob).objs.size = s.heap.objs.size + 1 := by
    show (s.heap.objs.push ob).size = _
    exact Array.size_push _
  obtain ⟨I, hI⟩ : ∃ I, I = (s.heap.push ob).objs.size := ⟨_, rfl⟩
  obtain ⟨io, hio⟩ : ∃ io : Obj, io = { cls := .type "list_iterator", data := .fields #[.ref l, .int 0 0] } := ⟨_, rfl⟩
  have ll : @LT.lt Nat _ l s.heap.objs.size := ll
  have eI : @Eq Nat I (s.heap.objs.size + 1) := hI.trans sz1
  have W := (Walks.list (prog := P) (w := w) (A := (((A.under (.builtin "type.__call__" { pos := [.type "set", .ref l] })).under (.builtin "set.__init__" { pos := [.ref s.heap.objs.size, .ref l] })).in1)) hh I l (fun z => by have z : @Eq Nat l I := z; omega) items).toS
  have en : items.size = ks.length := by rw [← Array.length_toList, hi, List.length_map]
  have grow : ∀ b o, s.heap.get? b = some o → ((s.heap.push ob).push io).get? b = some o := fun b o e => Heap.get?_push_of_some _ (Heap.get?_push_of_some _ e)
  have gI : ((s.heap.push ob).push io).get? I = some io := by rw [hI]; exact Heap.get?_push_size _ (by rw [hio]; rfl)
  rw [← hio]
  rw [show ({ s with heap := s.heap.push ob } : Shared).heap.objs.size = I from hI.symm]
  refine update_loop W s.heap.objs.size ?_ ks en hf (fun i v hv => ?_) s.heap hk (none_of _ (Nat.le_refl _)) (fun b hb => ?_) ?_ items.size 0 _ rfl (Nat.zero_le _) ?_ grow
    ⟨[], #[], 0, _, R0.keep (fun o e => Heap.get?_push_of_some _ e) (fun _ z => (nomatch z)), ⟨fun _ z => (nomatch z), fun _ z => (nomatch z), Nat.le_refl _⟩⟩ fun s' L es ep t mv RS GT k0 => ?_
  · intro z
    rcases List.mem_cons.mp z with z | z
    · have z : @Eq Nat s.heap.objs.size I := z
      omega
    · have z : @Eq Nat s.heap.objs.size l := List.mem_singleton.mp z
      omega
  · rw [← Array.getElem?_toList, hi, List.getElem?_map] at hv
    cases q2 : ks[i]? with
    | none => rw [q2] at hv; cases hv
    | some p => rw [q2] at hv; injection hv with hv; exact ⟨p, rfl, hv.symm⟩
  · rw [List.mem_singleton.mp hb]
    exact none_of _ (show @LE.le Nat _ s.heap.objs.size I by omega)
  · show A.units + (Code.builtin "type.__call__" { pos := [.type "set", .ref l] }).cUnits + (Code.builtin "set.__init__" { pos := [.ref s.heap.objs.size, .ref l] }).cUnits + 1 + knd.room < cLine
    rw [units_type_call_type]
    have : (Code.builtin "set.__init__" { pos := [.ref s.heap.objs.size, .ref l] }).cUnits = 1 := rfl
    omega
  · refine ⟨⟨io, gI, by rw [hio], by rw [hio]; rfl⟩, ?_⟩
    obtain ⟨o, h1, h2⟩ := hl
    exact ⟨o, grow _ _ h1, h2⟩
  · dsimp only
    rw [en] at GT
    have es' : s' = { s with heap := s'.heap, toks := s'.toks } := by
      have g1 := mv.gens
      have g2 := mv.drawn
      have g3 := mv.os
      cases s'
      cases g1
      cases g2
      cases g3
      rfl
    refine wpAny_pure (wpAny_pure ?_)
    dsimp only
    rw [if_neg (by decide)]
    refine wpAny_pure ?_
    dsimp only
    rw [es']
    exact q s'.heap s'.toks L es ep t RS GT k0 mv.toks
theorem call_setT {l : Addr} {items : Array Value} (ks : List (Addr × K)) {Q : Value → Shared → Prop} (hh : A.handled = none) (hl : s.heap.IsTuple l items)
    (hi : items.toList = ks.map fun p => .ref p.1) (hk : ∀ p ∈ ks, knd.is s.heap p.2 p.1) (hf : ks.length < 2048) (hu : A.units + 6 + knd.room < cLine)
    (q : ∀ h' tk L es ep t, SetG knd h' s.heap.objs.size L es ep t → GotG ks ks.length L → (∀ b o, s.heap.get? b = some o → h'.get? b = some o) →
      s.toks ≤ tk → Q (.ref s.heap.objs.size) { s with heap := h', toks := tk }) :
    wpAny (model P w) A (call (.type "set") [.ref l]) Q E s := by
  obtain ⟨ob, hob⟩ : ∃ ob : Obj, ob = { cls := .type "set", data := .set #[] 0 (SetTable.fresh 0 0 !w.params.followText "set-order") } := ⟨_, rfl⟩
  refine wpAny_call (codeAny_of_tree ?_)
  refine wpAny_pure ⟨Code.quiet_builtin _ (by simp), ?_⟩
  refine codeAny_builtin (b := Builtin.«type.__call__») PySem.F.entry_type_call ?_
  unfold Builtin.«type.__call__»
  dsimp only
  rw [if_neg (by rw [PySem.F.called_set.notType]; decide), if_neg (by rw [PySem.F.called_set.canCreate]; decide), PySem.F.typeCall_set_1]
  refine wpAny_bind (wpAny_pure ?_)
  obtain ⟨mc, mt, em⟩ := PySem.F.called_set.mro
  rw [em]
  refine wpAny_bind (wpAny_pure ?_)
  rw [if_neg (by simp), PySem.F.called_set.made]
  refine wpAny_bind (wpAny_pure ?_)
  dsimp only
  refine wpAny_bind (wpAny_pure ?_)
  have hg : (s.heap.push ob).get? s.heap.objs.size = some ob := Heap.get?_push_size _ (by rw [hob]; rfl)
  have ty : ({ s with heap := s.heap.push ob } : Shared).TypeIs (.ref s.heap.objs.size) "set" := by
    exact ⟨ob, hg, by rw [hob]⟩
  refine wpAny_bind (wpAny_holding (wpAny_call (code_set_led1 (Q₁ := _) _ ?_)))
  rw [← hob]
  refine wpAny_bind (wpAny_isInstance ty PySem.F.called_set.sub ?_)
  rw [if_neg (by decide)]
  refine wpAny_bind (wpAny_holding (wpAny_callSpecial?_slot ty PySem.F.called_set.init (wpAny_call (codeAny_call_builtin_at (Code.quiet_builtin _ (by simp)) PySem.F.entry_set_init (check_set_init_1 ty ?_)))))
  unfold Builtin.«set.__init__»
  refine wpAny_bind (m := noKeywords _ _) (wpAny_pure ?_)
  dsimp only
  refine wpAny_bind (m := typeNameOfCut _ _) ?_
  unfold typeNameOfCut shownTypeOf
  refine wpAny_bind (wpAny_bind (wpAny_typeOf ty ?_))
  rw [if_neg (by decide)]
  refine wpAny_pure ?_
  show wpAny _ _ (typeName (.type "set")) _ _ _
  rw [name_set]
  refine wpAny_pure (wpAny_bind (m := checkCount _ _ _ _) (wpAny_pure ?_))
  refine wpAny_bind (m := Builtin.Frozenset.addrOf _) (wpAny_pure ?_)
  have R0 : SetG knd (s.heap.push ob) s.heap.objs.size [] #[] 0 (SetTable.fresh 0 0 !w.params.followText "set-order") := setG_fresh (by rw [hg, hob])
  refine wpAny_bind (m := setUsed _) (wpAny_bind (wpAny_state (s := { s with heap := s.heap.push ob }) R0 (wpAny_pure ?_)))
  rw [if_neg (by intro z; cases z)]
  have lty : ({ s with heap := s.heap.push ob } : Shared).TypeIs (.ref l) "tuple" := by
    obtain ⟨o, h1, h2, _⟩ := hl
    exact ⟨o, Heap.get?_push_of_some _ h1, h2⟩
  refine wpAny_bind (m := Builtin.Frozenset.updateFrom _ _ _) ?_
  unfold Builtin.Frozenset.updateFrom Builtin.Frozenset.isAnySet
  refine wpAny_bind (m := (PySem.isInstance _ _ <||> PySem.isInstance _ _)) (wpAny_bind (wpAny_isInstance lty sub_ts ?_))
  show wpAny _ _ (PySem.isInstance (.ref l) (.type "frozenset")) _ _ _
  refine wpAny_isInstance lty sub_tf ?_
  rw [if_neg (by decide)]
  refine wpAny_bind (wpAny_typeOf lty ?_)
  rw [if_neg (by decide)]
  have hl2 : (s.heap.push ob).IsTuple l items := by
    obtain ⟨o, h1, h2⟩ := hl
    exact ⟨o, Heap.get?_push_of_some _ h1, h2⟩
  refine wpAny_bind (wpAny_pyIter_tuple hl2 ?_)
  refine wpAny_bind (wpAny_runValue ?_)
  have none_of : ∀ b, s.heap.objs.size ≤ b → s.heap.get? b = none := fun b hb => by
    cases q : s.heap.get? b with
    | none => rfl
    | some o => exact absurd (Heap.lt_size q) (Nat.not_lt.mpr hb)
  have ll : l < s.heap.objs.size := by
    obtain ⟨o, h1, _⟩ := hl
    exact Heap.lt_size h1
  have sz1 : (s.heap.push ob).objs.size = s.heap.objs.size + 1 := by
    show (s.heap.objs.push ob).size = _
    exact Array.size_push _
  obtain ⟨I, hI⟩ : ∃ I, I = (s.heap.push ob).objs.size := ⟨_, rfl⟩
  obtain ⟨io, hio⟩ : ∃ io : Obj, io = { cls := .type "tuple_iterator", data := .fields #[.ref l, .int 0 0] } := ⟨_, rfl⟩
  have ll : @LT.lt Nat _ l s.heap.objs.size := ll
  have eI : @Eq Nat I (s.heap.objs.size + 1) := hI.trans sz1
  have W := (Walks.tuple (prog := P) (w := w) (A := (((A.under (.builtin "type.__call__" { pos := [.type "set", .ref l] })).under (.builtin "set.__init__" { pos := [.ref s.heap.objs.size, .ref l] })).in1)) hh I l (fun z => by have z : @Eq Nat l I := z; omega) items).toS
  have en : items.size = ks.length := by rw [← Array.length_toList, hi, List.length_map]
  have grow : ∀ b o, s.heap.get? b = some o → ((s.heap.push ob).push io).get? b = some o := fun b o e => Heap.get?_push_of_some _ (Heap.get?_push_of_some _ e)
  have gI : ((s.heap.push ob).push io).get? I = some io := by rw [hI]; exact Heap.get?_push_size _ (by rw [hio]; rfl)
  rw [← hio]
  rw [show ({ s with heap := s.heap.push ob } : Shared).heap.objs.size = I from hI.symm]
  refine update_loop W s.heap.objs.size ?_ ks en hf (fun i v hv => ?_) s.heap hk (none_of _ (Nat.le_refl _)) (fun b hb => ?_) ?_ items.size 0 _ rfl (Nat.zero_le _) ?_ grow
    ⟨[], #[], 0, _, R0.keep (fun o e => Heap.get?_push_of_some _ e) (fun _ z => (nomatch z)), ⟨fun _ z => (nomatch z), fun _ z => (nomatch z), Nat.le_refl _⟩⟩ fun s' L es ep t mv RS GT k0 => ?_
  · intro z
    rcases List.mem_cons.mp z with z | z
    · have z : @Eq Nat s.heap.objs.size I := z
      omega
    · have z : @Eq Nat s.heap.objs.size l := List.mem_singleton.mp z
      omega
  · rw [← Array.getElem?_toList, hi, List.getElem?_map] at hv
    cases q2 : ks[i]? with
    | none => rw [q2] at hv; cases hv
    | some p => rw [q2] at hv; injection hv with hv; exact ⟨p, rfl, hv.symm⟩
  · rw [List.mem_singleton.mp hb]
    exact none_of _ (show @LE.le Nat _ s.heap.objs.size I by omega)
  · show A.units + (Code.builtin "type.__call__" { pos := [.type "set", .ref l] }).cUnits + (Code.builtin "set.__init__" { pos := [.ref s.heap.objs.size, .ref l] }).cUnits + 1 + knd.room < cLine
    rw [units_type_call_type]
    have : (Code.builtin "set.__init__" { pos := [.ref s.heap.objs.size, .ref l] }).cUnits = 1 := rfl
    omega
  · refine ⟨⟨io, gI, by rw [hio], by rw [hio]; rfl⟩, ?_⟩
    obtain ⟨o, h1, h2⟩ := hl
    exact ⟨o, grow _ _ h1, h2⟩
  · dsimp only
    rw [en] at GT
    have es' : s' = { s with heap := s'.heap, toks := s'.toks } := by
      have g1 := mv.gens
      have g2 := mv.drawn
      have g3 := mv.os
      cases s'
      cases g1
      cases g2
      cases g3
      rfl
    refine wpAny_pure (wpAny_pure ?_)
    dsimp only
    rw [if_neg (by decide)]
    refine wpAny_pure ?_
    dsimp only
    rw [es']
    exact q s'.heap s'.toks L es ep t RS GT k0 mv.toks
end
end SG

/-! The kind of flat tuples of whole numbers; sets of them as objects of a heap of words. -/
namespace SG
open PySem PySem.Spec L2
section
variable {P : Program} {w : World}
theorem isT_cls {h : Heap} {k : List Int} {a : Addr} (hk : L2.IsT P w h k a) : ∃ o, h.get? a = some o ∧ o.cls = .type "tuple" := by
  obtain ⟨o, its, n, h1, h2, _⟩ := hk
  exact ⟨o, h1, h2⟩
def flatK (P : Program) (w : World) : SKind P w (List Int) where
  is := fun h k a => L2.IsT P w h k a
  hash := thash P w
  room := 0
  keep := fun {h h' k a} hk f => by
    obtain ⟨o, its, n, h1, h2, h3⟩ := hk
    exact ⟨o, its, n, f a o h1 h2, h2, h3⟩
  pyHash := fun {A E s k a Q} hu hk q => wpAny_pyHash_tuple (by omega) hk (q _)
  eqB := fun {A E s x y a b Q} hu hx hy q => wpAny_eqBool_tuple (by omega) hx hy (q s.toks)
  byVal := fun {A E s k a Q} hk q => hashBy_tup hk q
  seen := fun {A E s k b Q} hk ys hy q => seen_tup hk hy q
end
section
variable {P : Program} {w : World} {K : Type} [DecidableEq K] (knd : SKind P w K)
/-- what a heap says of a set alone, its elements aside -/
def S0G (h : Heap) (a : Addr) (L : List (Addr × K)) : Prop := ∃ es ep t,
  (∃ o, h.get? a = some o ∧ o.ExactSet ∧ o.data = .set es ep t) ∧ es.toList = rowsG knd L ∧ TabG t (L.map fun p => knd.hash p.2) ∧ (L.map (·.2)).Nodup ∧ t.plain = true ∧
  (w.params.followText "set-order" = true ∨ t.led = true) ∧ L.length * 5 < t.mask * 3 ∧ L.length < 2048
variable {knd}
theorem S0G.full {h : Heap} {a : Addr} {L : List (Addr × K)} (S : S0G knd h a L) (ht : ∀ p ∈ L, knd.is h p.2 p.1) : ∃ es ep t, SetG knd h a L es ep t := by
  obtain ⟨es, ep, t, h1, h2, h3, h4, h5, h6, h7, h8⟩ := S
  exact ⟨es, ep, t, h1, h2, h3, h4, ht, h5, h6, h7, h8⟩
theorem SetG.alone {h : Heap} {a : Addr} {L : List (Addr × K)} {es : Array (Int × Value)} {ep : Nat} {t : SetTable} (S : SetG knd h a L es ep t) : S0G knd h a L :=
  ⟨es, ep, t, S.ob, S.rows, S.tab, S.nd, S.plain, S.led, S.room, S.few⟩
variable (knd) in
def SetGO (a : Addr) (L : List (Addr × K)) : HO := .ext fun h => S0G knd h a L
theorem setGO_new {H : Hp} {h : Heap} {a : Addr} {L : List (Addr × K)} (S : S0G knd h a L) : ObjOk P w H h a (SetGO knd a L) := by
  unfold SetGO ObjOk
  refine ⟨S, ?_, fun h1 h2 S1 f => ?_⟩
  · obtain ⟨es, ep, t, ⟨o, ho, _⟩, _⟩ := S
    exact ⟨o, ho⟩
  · obtain ⟨es, ep, t, ⟨o, ho, hx⟩, hr⟩ := S1
    exact ⟨es, ep, t, ⟨o, f o ho, hx⟩, hr⟩
end
end SG

/-! set(list) of objects of a kind, as a rule of calls; sorted of such a set; its length. -/
namespace SG
open PySem PySem.Spec PyProof.Rows L2 Cl
section
variable {X : Cx} {K : Type} [DecidableEq K] (knd : SKind X.prog X.w K) (el : Hp → Addr → K → Prop)
def rSetG : List V → Hp → VK → Prop := fun xs H Q => ∃ (l : Addr) (ks : List (Addr × K)), xs = [.ref l] ∧ SqL X.K H l (ks.map fun p => V.ref p.1) ∧
  (∀ p ∈ ks, el H p.1 p.2) ∧ ks.length < 2048 ∧ ∀ a H' L, Cl.Same H H' → H a = none → H' a = some (SetGO knd a L) → (L.map (·.2)).Nodup → (∀ p ∈ L, p ∈ ks) → (∀ p ∈ ks, p.2 ∈ L.map (·.2)) → Q (.ref a) H'
variable {knd el}
theorem cr_setG (hc : X.calm = true) (hu : X.A.units + 64 < cLine) (hr : knd.room ≤ 50)
    (hel : ∀ {pins σ H s b k}, Inv X pins σ H s → el H b k → knd.is s.heap k b) : CallR X (.type "set") (rSetG knd el) := by
  intro pins s σ H xs us Q I r ⟨l, ks, e, hl, hk, hf, q⟩
  subst e
  rw [Vals.ref1 r]
  obtain ⟨its, rv, hil, hz⟩ := I.list hl
  have ei : its = ks.map fun p => Value.ref p.1 := by
    clear hf hk q hil hz hl
    induction ks generalizing its with
    | nil => cases rv; rfl
    | cons p ks ih =>
      rw [List.map_cons] at rv
      cases rv with
      | cons r0 rr =>
        rw [List.map_cons, ih _ rr]
        congr 1
  refine call_setL (knd := knd) (items := its.toArray) ks (I.ok.hd hc) hil.isList (by simpa using ei) (fun p hp => hel I (hk p hp)) hf (by omega) fun h' tk L es ep t RS GT kp ht => ?_
  have hn : H s.heap.objs.size = none := I.hok.fresh (Nat.le_refl _)
  have J : Inv X pins σ (upd H s.heap.objs.size (SetGO knd s.heap.objs.size L)) { s with heap := h', gens := s.gens, drawn := s.drawn, toks := tk } :=
    I.call (ch := []) (Un.laid kp (Nat.le_refl _) hn) (I.hok.laid kp (Nat.le_refl _) (setGO_new RS.alone)) I.bare (fun _ z => nomatch z)
  refine ⟨.ref s.heap.objs.size, _, J, rfl, q _ _ L (Cl.same_new hn) hn upd_same RS.nd (fun p hp => ?_) fun p hp => ?_⟩
  · exact List.mem_of_mem_take (GT.sub p hp)
  · exact GT.all p (by rw [List.take_length]; exact hp)
end
section
variable {P : Program} {w : World} {K : Type} [DecidableEq K] {knd : SKind P w K} {A : Around} {E : Value → Shared → Prop} {s : Shared} {a : Addr} {L : List (Addr × K)}
  {es : Array (Int × Value)} {ep : Nat} {t : SetTable} {Q : Value → Shared → Prop}
def leG (enc : K → PyData) (q r : Addr × K) : Prop := PySem.W.dataLe false (fun q : Addr × K => enc q.2) q r = true
theorem perm_refs : ∀ {us vs : List Value}, vs.Perm us → ∀ L : List (Addr × K), us = L.map (fun q => Value.ref q.1) → ∃ L1 : List (Addr × K), vs = L1.map (fun q => Value.ref q.1) ∧ L1.Perm L := by
  intro us vs hp
  induction hp with
  | nil =>
    intro L eu
    cases L with
    | nil => exact ⟨[], rfl, .nil⟩
    | cons q L => cases eu
  | @cons x l1 l2 hp ih =>
    intro L eu
    cases L with
    | nil => cases eu
    | cons q L =>
      rw [List.map_cons] at eu
      injection eu with e2 e3
      obtain ⟨L1, e4, p4⟩ := ih L e3
      exact ⟨q :: L1, by rw [List.map_cons, e2, e4], p4.cons q⟩
  | swap x y l =>
    intro L eu
    match L, eu with
    | q :: r :: L, eu =>
      rw [List.map_cons, List.map_cons] at eu
      injection eu with e2 e3
      injection e3 with e3 e4
      exact ⟨r :: q :: L, by rw [List.map_cons, List.map_cons, e2, e3, e4], .swap ..⟩
    | [_], eu => cases eu
    | [], eu => cases eu
  | trans h1 h2 ih1 ih2 =>
    intro L eu
    obtain ⟨L2, e2, p2⟩ := ih2 L eu
    obtain ⟨L1, e1, p1⟩ := ih1 L2 e2
    exact ⟨L1, e1, p1.trans p2⟩
theorem sorted_setG (R : SetG knd s.heap a L es ep t) (hh : A.handled = none) (enc : K → PyData) (dd : Nat) (hrd : ∀ {h k b}, knd.is h k b → Reads h (.ref b) (enc k) [])
    (hal : PySem.W.AllAlike (L.map fun p => enc p.2)) (hso : PySem.W.Sortable (L.map fun p => enc p.2)) (hdp : ∀ p ∈ L, (enc p.2).depth ≤ dd) (hu : A.units + 8 + dd < cLine)
    (hQ : ∀ s' p (out : Array Value) (c : Nat) (L' : List (Addr × K)), (∀ b o, s.heap.get? b = some o → s'.heap.get? b = some o) →
      s'.gens = s.gens → s'.os = s.os → s.heap.objs.size ≤ p → s'.heap.get? p = some (seqObj "list" out c) →
      out.toList = L'.map (fun q => Value.ref q.1) → L'.Perm L → L'.Pairwise (leG enc) → Q (.ref p) s') :
    wpAny (model P w) A (call (.builtin "sorted") [.ref a]) Q E s := by
  obtain ⟨o, ho, hex, hd⟩ := R.ob
  have nfew := R.few
  refine Calls.call_function_entry kind_sorted plain_sorted entry_sorted (args_sorted1 _) ?_
  unfold Builtin.«sorted»
  refine wpAny_bind (m := checkCount "sorted" 1 1 _) (wpAny_pure ?_)
  refine wpAny_bind (collect_set (A := A.in1) hh ⟨o, ho, hex.1, hd⟩ R.fits (by unfold scanBound; have := R.size; omega) R.tab.ris R.led fun s1 vs k1 hz g1 o1 pm => ?_)
  have rows : es.toList.map (·.2) = L.map fun q => Value.ref q.1 := by
    rw [R.rows]
    unfold rowsG
    rw [List.map_map]
    rfl
  rw [rows] at pm
  obtain ⟨L1, e1, p1⟩ := perm_refs pm L rfl
  have n1 : vs.length = L.length := by rw [e1, List.length_map, p1.length_eq]
  have small : vs.length ≤ sizeLine := by rw [sizeLine_eq]; omega
  refine wpAny_bind (wpAny_newList ?_ small)
  have oL : (s1.heap.push (seqObj "list" vs.toArray 0)).get? s1.heap.objs.size = some (seqObj "list" vs.toArray 0) := Heap.get?_push_size _ rfl
  have reads : ∀ q ∈ L, Reads (s1.heap.push (seqObj "list" vs.toArray 0)) (.ref q.1) (enc q.2) [] := fun q hq =>
    hrd (knd.keep (R.tup q hq) fun c o' hc _ => Heap.get?_push_of_some _ (k1 _ _ hc))
  have each : ∀ l : List (Addr × K), (∀ q ∈ l, q ∈ L) → PySem.W.EachIs (fun (v : Value) (q : Addr × K) => v = .ref q.1) (l.map fun q => Value.ref q.1) l ∧
      PySem.W.EachIs (fun v q => ∃ as, Reads (s1.heap.push (seqObj "list" vs.toArray 0)) v ((fun q : Addr × K => enc q.2) q) as ∧ s1.heap.objs.size ∉ as) (l.map fun q => Value.ref q.1) l := by
    intro l
    induction l with
    | nil => intro _; exact ⟨.nil, .nil⟩
    | cons q l ih =>
      intro h
      obtain ⟨i1, i2⟩ := ih fun r hr => h r (List.mem_cons_of_mem _ hr)
      exact ⟨.cons rfl i1, .cons ⟨[], reads q (h q List.mem_cons_self), fun z => nomatch z⟩ i2⟩
  obtain ⟨c1, c2⟩ := each L1 fun q hq => p1.mem_iff.mp hq
  rw [← e1] at c1 c2
  have sub : ∀ d ∈ L1.map (fun q : Addr × K => enc q.2), d ∈ L.map fun p => enc p.2 := fun d hd => ((p1.map fun p : Addr × K => enc p.2).mem_iff).mp hd
  have hso1 : PySem.W.Sortable (L1.map fun q : Addr × K => enc q.2) := by
    rcases hso with h | h
    · exact .inl fun d hd => h d (sub d hd)
    · exact .inr fun d hd => h d (sub d hd)
  refine wpAny_bind (wpAny_holding (PySem.W.list_sort_data (s := { s1 with heap := s1.heap.push (seqObj "list" vs.toArray 0) }) (enc := fun q : Addr × K => enc q.2) oL c1 c2 (fun d hd d' hd' => hal d (sub d hd) d' (sub d' hd')) hso1 (by rw [p1.length_eq, sizeLine_eq]; omega)
    (fun b hb => by have := hdp b (p1.mem_iff.mp hb); show A.units + 1 + 1 + (enc b.2).depth < cLine; omega) fun out a1 a2 => ?_))
  obtain ⟨c, hc⟩ := sortedHeap_at (vs := vs) (out := out.toArray) oL
  have eo : out = (L1.mergeSort (PySem.W.dataLe false fun q : Addr × K => enc q.2)).map fun q => Value.ref q.1 := by
    revert a2
    generalize L1.mergeSort (PySem.W.dataLe false fun q : Addr × K => enc q.2) = M
    intro a2
    clear hc a1
    induction a2 with
    | nil => rfl
    | cons h t ih => rw [List.map_cons, ← ih, h]
  have pM : (L1.mergeSort (PySem.W.dataLe false fun q : Addr × K => enc q.2)).Perm L := (List.mergeSort_perm _ _).trans p1
  have tot : PySem.W.TotalLe (PySem.W.dataLe false fun q : Addr × K => enc q.2) := PySem.W.sortLe_total ..
  have pw : (L1.mergeSort (PySem.W.dataLe false fun q : Addr × K => enc q.2)).Pairwise (leG enc) :=
    List.pairwise_mergeSort tot.trans (fun x y => by rw [Bool.or_eq_true]; exact tot.total x y) L1
  refine wpAny_pure ⟨_, rfl, hQ _ s1.heap.objs.size out.toArray c _ (fun b u e => ?_) g1 o1 hz hc eo pM pw⟩
  have e5 := k1 b u e
  have lt5 := Heap.lt_size e5
  show (sortedHeap (s1.heap.push (seqObj "list" vs.toArray 0)) s1.heap.objs.size vs out.toArray).get? b = some u
  rw [sortedHeap_old (Nat.ne_of_lt lt5) (by rw [show (s1.heap.push (seqObj "list" vs.toArray 0)).objs.size = s1.heap.objs.size + 1 from Array.size_push ..]; exact Nat.lt_succ_of_lt lt5)]
  exact Heap.get?_push_of_some _ e5
end
section
variable {X : Cx} {K : Type} [DecidableEq K] (knd : SKind X.prog X.w K) (el : Hp → Addr → K → Prop) (enc : K → PyData) (dd : Nat)
def rSortedG : List V → Hp → VK → Prop := fun vs H Q => ∃ (a : Addr) (L : List (Addr × K)), vs = [V.ref a] ∧ H a = some (SetGO knd a L) ∧ (∀ p ∈ L, el H p.1 p.2) ∧
  PySem.W.AllAlike (L.map fun p => enc p.2) ∧ PySem.W.Sortable (L.map fun p => enc p.2) ∧ (∀ p ∈ L, (enc p.2).depth ≤ dd) ∧
  ∀ L' : List (Addr × K), L'.Perm L → L'.Pairwise (leG enc) → L.length < 2048 → (L.map (·.2)).Nodup → New H (.lst (L'.map fun q => V.ref q.1)) Q
variable {knd el enc dd}
theorem cr_sortedG (hc : X.calm = true) (hu : X.A.units + 64 < cLine) (hdd : dd ≤ 50) (hrd : ∀ {h k b}, knd.is h k b → Reads h (.ref b) (enc k) [])
    (hel : ∀ {pins σ H s b k}, Inv X pins σ H s → el H b k → knd.is s.heap k b) : CallR X (.builtin "sorted") (rSortedG knd el enc dd) := by
  intro pins s σ H vs us Q I r ⟨a, L, e, ha, hk, h1, h2, h3, q⟩
  subst e
  obtain ⟨es, ep, t, R⟩ := S0G.full (I.hok a _ ha).1 fun p hp => hel I (hk p hp)
  rw [Vals.ref1 r]
  refine sorted_setG R (I.ok.hd hc) enc dd hrd h1 h2 h3 (by omega) fun s' p out c L' k g o hp hg hout pm pw => ?_
  have few : L'.length < 2048 := by rw [pm.length_eq]; exact R.few
  have len : (L'.map fun q => V.ref q.1).length ≤ sizeLine := by rw [List.length_map, sizeLine_eq]; omega
  have hn : H p = none := I.hok.fresh hp
  have vr : ∀ M : List (Addr × K), Vals (M.map fun q => V.ref q.1) (M.map fun q => Value.ref q.1) := fun M => by
    induction M with
    | nil => exact .nil
    | cons q M ih => exact .cons rfl ih
  have hv : Vals (L'.map fun q => V.ref q.1) out.toList := by rw [hout]; exact vr L'
  have J : Inv X pins σ (upd H p (.lst (L'.map fun q => V.ref q.1))) { s with heap := s'.heap, gens := s'.gens, drawn := s'.drawn, toks := s'.toks } :=
    I.call (ch := []) (Un.laid k hp hn) (I.hok.laid k hp ⟨len, out.toList, c, hv, hg⟩) (by rw [g]; exact I.bare) (fun _ z => nomatch z)
  have e : s' = { s with heap := s'.heap, gens := s'.gens, drawn := s'.drawn, toks := s'.toks } := by
    cases s'
    cases s
    cases o
    rfl
  rw [e]
  exact ⟨.ref p, _, J, rfl, (q L' pm pw R.few R.nd).go p hn⟩
end
end SG

/-! sorted(list) and sorted(tuple) of objects of a kind. -/
namespace SG
open PySem PySem.Spec PyProof.Rows L2 Cl
section
variable {P : Program} {w : World} {K : Type} [DecidableEq K] {knd : SKind P w K} {A : Around} {E : Value → Shared → Prop} {s : Shared} {a : Addr} {L : List (Addr × K)}
  {es : Array (Int × Value)} {ep : Nat} {t : SetTable} {Q : Value → Shared → Prop}
theorem sorted_seqG {T : String} {o : Obj} {items : Array Value} {n : Nat} (hT : T = "list" ∨ T = "tuple") (ho : s.heap.get? a = some o) (hcl : o.cls = .type T) (hdt : o.data = .seq items n) (hit : items.toList = L.map fun q => Value.ref q.1) (hlen : L.length ≤ 100000)
    (hh : A.handled = none) (enc : K → PyData) (dd : Nat) (hrd : ∀ {h k b}, knd.is h k b → Reads h (.ref b) (enc k) []) (htup : ∀ p ∈ L, knd.is s.heap p.2 p.1)
    (hal : PySem.W.AllAlike (L.map fun p => enc p.2)) (hso : PySem.W.Sortable (L.map fun p => enc p.2)) (hdp : ∀ p ∈ L, (enc p.2).depth ≤ dd) (hu : A.units + 8 + dd < cLine)
    (hQ : ∀ s' (h1 : Heap) (out : Array Value) (c : Nat) (L' : List (Addr × K)), (∀ b o, s.heap.get? b = some o → h1.get? b = some o) → (∀ b o, h1.get? b = some o → s'.heap.get? b = some o) →
      s'.gens = s.gens → s'.os = s.os → s'.heap.get? h1.objs.size = some (seqObj "list" out c) →
      out.toList = L'.map (fun q => Value.ref q.1) → L'.Perm L → L'.Pairwise (leG enc) → Q (.ref h1.objs.size) s') :
    wpAny (model P w) A (call (.builtin "sorted") [.ref a]) Q E s := by
  refine Calls.call_function_entry kind_sorted plain_sorted entry_sorted (args_sorted1 _) ?_
  unfold Builtin.«sorted»
  refine wpAny_bind (m := checkCount "sorted" 1 1 _) (wpAny_pure ?_)
  have hli : items.size ≤ sizeLine := by rw [← Array.length_toList, hit, List.length_map, sizeLine_eq]; omega
  refine wpAny_bind (wpAny_collect_seq a hT ho hcl hdt (fun h1 k1 => ?_) hli)
  obtain ⟨s1, es1⟩ : ∃ s1 : Shared, s1 = { s with heap := h1 } := ⟨_, rfl⟩
  have k1 : ∀ b o, s.heap.get? b = some o → s1.heap.get? b = some o := by rw [es1]; exact k1
  have g1 : s1.gens = s.gens := by rw [es1]
  have o1 : s1.os = s.os := by rw [es1]
  rw [← es1]
  obtain ⟨vs, ev⟩ : ∃ vs, vs = items.toList := ⟨_, rfl⟩
  rw [← ev]
  have pm : vs.Perm (L.map fun q => Value.ref q.1) := by rw [ev, hit]
  obtain ⟨L1, e1, p1⟩ := perm_refs pm L rfl
  have n1 : vs.length = L.length := by rw [e1, List.length_map, p1.length_eq]
  have small : vs.length ≤ sizeLine := by rw [sizeLine_eq]; omega
  refine wpAny_bind (wpAny_newList ?_ small)
  have oL : (s1.heap.push (seqObj "list" vs.toArray 0)).get? s1.heap.objs.size = some (seqObj "list" vs.toArray 0) := Heap.get?_push_size _ rfl
  have reads : ∀ q ∈ L, Reads (s1.heap.push (seqObj "list" vs.toArray 0)) (.ref q.1) (enc q.2) [] := fun q hq =>
    hrd (knd.keep (htup q hq) fun c o' hc _ => Heap.get?_push_of_some _ (k1 _ _ hc))
  have each : ∀ l : List (Addr × K), (∀ q ∈ l, q ∈ L) → PySem.W.EachIs (fun (v : Value) (q : Addr × K) => v = .ref q.1) (l.map fun q => Value.ref q.1) l ∧
      PySem.W.EachIs (fun v q => ∃ as, Reads (s1.heap.push (seqObj "list" vs.toArray 0)) v ((fun q : Addr × K => enc q.2) q) as ∧ s1.heap.objs.size ∉ as) (l.map fun q => Value.ref q.1) l := by
    intro l
    induction l with
    | nil => intro _; exact ⟨.nil, .nil⟩
    | cons q l ih =>
      intro h
      obtain ⟨i1, i2⟩ := ih fun r hr => h r (List.mem_cons_of_mem _ hr)
      exact ⟨.cons rfl i1, .cons ⟨[], reads q (h q List.mem_cons_self), fun z => nomatch z⟩ i2⟩
  obtain ⟨c1, c2⟩ := each L1 fun q hq => p1.mem_iff.mp hq
  rw [← e1] at c1 c2
  have sub : ∀ d ∈ L1.map (fun q : Addr × K => enc q.2), d ∈ L.map fun p => enc p.2 := fun d hd => ((p1.map fun p : Addr × K => enc p.2).mem_iff).mp hd
  have hso1 : PySem.W.Sortable (L1.map fun q : Addr × K => enc q.2) := by
    rcases hso with h | h
    · exact .inl fun d hd => h d (sub d hd)
    · exact .inr fun d hd => h d (sub d hd)
  refine wpAny_bind (wpAny_holding (PySem.W.list_sort_data (s := { s1 with heap := s1.heap.push (seqObj "list" vs.toArray 0) }) (enc := fun q : Addr × K => enc q.2) oL c1 c2 (fun d hd d' hd' => hal d (sub d hd) d' (sub d' hd')) hso1 (by rw [p1.length_eq, sizeLine_eq]; omega)
    (fun b hb => by have := hdp b (p1.mem_iff.mp hb); show A.units + 1 + 1 + (enc b.2).depth < cLine; omega) fun out a1 a2 => ?_))
  obtain ⟨c, hc⟩ := sortedHeap_at (vs := vs) (out := out.toArray) oL
  have eo : out = (L1.mergeSort (PySem.W.dataLe false fun q : Addr × K => enc q.2)).map fun q => Value.ref q.1 := by
    revert a2
    generalize L1.mergeSort (PySem.W.dataLe false fun q : Addr × K => enc q.2) = M
    intro a2
    clear hc a1
    induction a2 with
    | nil => rfl
    | cons h t ih => rw [List.map_cons, ← ih, h]
  have pM : (L1.mergeSort (PySem.W.dataLe false fun q : Addr × K => enc q.2)).Perm L := (List.mergeSort_perm _ _).trans p1
  have tot : PySem.W.TotalLe (PySem.W.dataLe false fun q : Addr × K => enc q.2) := PySem.W.sortLe_total ..
  have pw : (L1.mergeSort (PySem.W.dataLe false fun q : Addr × K => enc q.2)).Pairwise (leG enc) :=
    List.pairwise_mergeSort tot.trans (fun x y => by rw [Bool.or_eq_true]; exact tot.total x y) L1
  refine wpAny_pure ⟨_, rfl, hQ _ s1.heap out.toArray c _ k1 (fun b u e5 => ?_) g1 o1 hc eo pM pw⟩
  have lt5 := Heap.lt_size e5
  show (sortedHeap (s1.heap.push (seqObj "list" vs.toArray 0)) s1.heap.objs.size vs out.toArray).get? b = some u
  rw [sortedHeap_old (Nat.ne_of_lt lt5) (by rw [show (s1.heap.push (seqObj "list" vs.toArray 0)).objs.size = s1.heap.objs.size + 1 from Array.size_push ..]; exact Nat.lt_succ_of_lt lt5)]
  exact Heap.get?_push_of_some _ e5
end
section
variable {X : Cx} {K : Type} [DecidableEq K] (knd : SKind X.prog X.w K) (el : Hp → Addr → K → Prop) (enc : K → PyData) (dd : Nat)
def rSortedQ : List V → Hp → VK → Prop := fun vs H Q => ∃ (a : Addr) (L : List (Addr × K)), vs = [V.ref a] ∧ (SqL X.K H a (L.map fun q => V.ref q.1) ∨ SqT X.K H a (L.map fun q => V.ref q.1)) ∧ L.length ≤ 100000 ∧ (∀ p ∈ L, el H p.1 p.2) ∧
  PySem.W.AllAlike (L.map fun p => enc p.2) ∧ PySem.W.Sortable (L.map fun p => enc p.2) ∧ (∀ p ∈ L, (enc p.2).depth ≤ dd) ∧
  ∀ L' : List (Addr × K), L'.Perm L → L'.Pairwise (leG enc) → New H (.lst (L'.map fun q => V.ref q.1)) Q
variable {knd el enc dd}
theorem cr_sortedQ (hc : X.calm = true) (hu : X.A.units + 64 < cLine) (hdd : dd ≤ 50) (hrd : ∀ {h k b}, knd.is h k b → Reads h (.ref b) (enc k) [])
    (hel : ∀ {pins σ H s b k}, Inv X pins σ H s → el H b k → knd.is s.heap k b) : CallR X (.builtin "sorted") (rSortedQ (X := X) el enc dd) := by
  intro pins s σ H vs us Q I r ⟨a, L, e, ha, hl, hk, h1, h2, h3, q⟩
  subst e
  rw [Vals.ref1 r]
  have back : ∀ {its : List Value} {M : List (Addr × K)}, Vals (M.map fun q => V.ref q.1) its → its = M.map fun q => Value.ref q.1 := by
    intro its M
    induction M generalizing its with
    | nil => intro h; cases h; rfl
    | cons p M ih => intro h; cases h with | cons r0 rr => rw [List.map_cons, ih rr]; congr 1
  have src : ∃ (T : String) (o : Obj) (items : Array Value) (n : Nat), (T = "list" ∨ T = "tuple") ∧ s.heap.get? a = some o ∧ o.cls = .type T ∧ o.data = .seq items n ∧ items.toList = L.map fun q => Value.ref q.1 := by
    rcases ha with h | h
    · obtain ⟨its, rv, hil, _⟩ := I.list h
      obtain ⟨o, w1, w2, n, w3⟩ := hil.isList
      exact ⟨"list", o, _, n, .inl rfl, w1, w2, w3, by simpa using back rv⟩
    · obtain ⟨its, rv, ⟨o, w1, w2, n, w3⟩, _⟩ := I.tuple h
      exact ⟨"tuple", o, _, n, .inr rfl, w1, w2, w3, by simpa using back rv⟩
  obtain ⟨T, o, items, n, hT, ho, hcl, hdt, hit⟩ := src
  refine sorted_seqG (knd := knd) hT ho hcl hdt hit hl (I.ok.hd hc) enc dd hrd (fun p hp => hel I (hk p hp)) h1 h2 h3 (by omega) fun s' hm out c L' k1 k2 g o hg hout pm pw => ?_
  have I1 : Inv X pins σ H { s with heap := hm, toks := s'.toks } := I.kept k1
  have hn : H hm.objs.size = none := I1.hok.fresh (Nat.le_refl _)
  have len : (L'.map fun q => V.ref q.1).length ≤ sizeLine := by rw [List.length_map, pm.length_eq, sizeLine_eq]; omega
  have vr : ∀ M : List (Addr × K), Vals (M.map fun q => V.ref q.1) (M.map fun q => Value.ref q.1) := fun M => by
    induction M with
    | nil => exact .nil
    | cons q M ih => exact .cons rfl ih
  have hv : Vals (L'.map fun q => V.ref q.1) out.toList := by rw [hout]; exact vr L'
  have J : Inv X pins σ (upd H hm.objs.size (.lst (L'.map fun q => V.ref q.1))) { s with heap := s'.heap, gens := s'.gens, drawn := s'.drawn, toks := s'.toks } :=
    Inv.call (s := { s with heap := hm, toks := s'.toks }) (ch := []) I1 (Un.laid k2 (Nat.le_refl _) hn) (I1.hok.laid k2 (Nat.le_refl _) ⟨len, out.toList, c, hv, hg⟩) (by rw [g]; exact I.bare) (fun _ z => nomatch z)
  have e : s' = { s with heap := s'.heap, gens := s'.gens, drawn := s'.drawn, toks := s'.toks } := by
    cases s'
    cases s
    cases o
    rfl
  rw [e]
  exact ⟨.ref hm.objs.size, _, J, rfl, (q L' pm pw).go _ hn⟩
end
end SG

/-! set(tuple), and the length of a set, as rules of calls. -/
namespace SG
open PySem PySem.Spec PyProof.Rows L2 Cl
section
variable {P : Program} {w : World} {K : Type} [DecidableEq K] {knd : SKind P w K} {A : Around} {E : Value → Shared → Prop} {s : Shared} {a : Addr} {L : List (Addr × K)}
  {es : Array (Int × Value)} {ep : Nat} {t : SetTable} {Q : Value → Shared → Prop}
theorem call_lenG (R : SetG knd s.heap a L es ep t) (q : Q (.int L.length (s.toks + 1)) { s with toks := s.toks + 1 + 1 }) :
    wpAny (model P w) A (call (.builtin "len") [.ref a]) Q E s := by
  obtain ⟨o, ho, hx, hd⟩ := R.ob
  have ty : s.TypeIs (.ref a) "set" := ⟨o, ho, hx.1⟩
  have hf := R.few
  refine call_len_slot (n := (L.length : Int)) ty PySem.F.slot_set_len (fun Q' q' => ?_) (by omega) (by omega) q
  refine wpAny_call (codeAny_call_builtin PySem.F.slot_set_len.plain PySem.entry_set_len (PySem.F.slot_set_len.check _ _ _ _ _ _ _ _ ty (PySem.F.args_set_len_1 _) ?_))
  unfold Builtin.«frozenset.__len__»
  refine wpAny_bind (m := Builtin.Frozenset.slot0 _ _) ?_
  unfold Builtin.Frozenset.slot0
  refine wpAny_bind (m := slotArgs _ _ _) (wpAny_pure (wpAny_pure ?_))
  refine wpAny_bind (m := Builtin.Frozenset.sizeOf _) ?_
  unfold Builtin.Frozenset.sizeOf setEntries
  refine wpAny_bind (wpAny_bind (wpAny_state R (wpAny_pure (wpAny_pure ?_))))
  rw [R.size]
  exact wpAny_bind (m := mkInt _) (wpAny_mkInt (wpAny_pure q'))
end
section
variable {X : Cx} {K : Type} [DecidableEq K] (knd : SKind X.prog X.w K) (el : Hp → Addr → K → Prop)
def rSetTG : List V → Hp → VK → Prop := fun xs H Q => ∃ (l : Addr) (ks : List (Addr × K)), xs = [.ref l] ∧ SqT X.K H l (ks.map fun p => V.ref p.1) ∧
  (∀ p ∈ ks, el H p.1 p.2) ∧ ks.length < 2048 ∧ ∀ a H' L, Cl.Same H H' → H a = none → H' a = some (SetGO knd a L) → (L.map (·.2)).Nodup → (∀ p ∈ L, p ∈ ks) → (∀ p ∈ ks, p.2 ∈ L.map (·.2)) → Q (.ref a) H'
def rLenG : List V → Hp → VK → Prop := fun xs H Q => ∃ (a : Addr) (L : List (Addr × K)), xs = [.ref a] ∧ H a = some (SetGO knd a L) ∧ (∀ p ∈ L, el H p.1 p.2) ∧ Q (.int L.length) H
variable {knd el}
theorem cr_setTG (hc : X.calm = true) (hu : X.A.units + 64 < cLine) (hr : knd.room ≤ 50)
    (hel : ∀ {pins σ H s b k}, Inv X pins σ H s → el H b k → knd.is s.heap k b) : CallR X (.type "set") (rSetTG knd el) := by
  intro pins s σ H xs us Q I r ⟨l, ks, e, hl, hk, hf, q⟩
  subst e
  rw [Vals.ref1 r]
  obtain ⟨its, rv, hil, hz⟩ := I.tuple hl
  have ei : its = ks.map fun p => Value.ref p.1 := by
    clear hf hk q hil hz hl
    induction ks generalizing its with
    | nil => cases rv; rfl
    | cons p ks ih =>
      rw [List.map_cons] at rv
      cases rv with
      | cons r0 rr =>
        rw [List.map_cons, ih _ rr]
        congr 1
  refine call_setT (knd := knd) (items := its.toArray) ks (I.ok.hd hc) hil (by simpa using ei) (fun p hp => hel I (hk p hp)) hf (by omega) fun h' tk L es ep t RS GT kp ht => ?_
  have hn : H s.heap.objs.size = none := I.hok.fresh (Nat.le_refl _)
  have J : Inv X pins σ (upd H s.heap.objs.size (SetGO knd s.heap.objs.size L)) { s with heap := h', gens := s.gens, drawn := s.drawn, toks := tk } :=
    I.call (ch := []) (Un.laid kp (Nat.le_refl _) hn) (I.hok.laid kp (Nat.le_refl _) (setGO_new RS.alone)) I.bare (fun _ z => nomatch z)
  refine ⟨.ref s.heap.objs.size, _, J, rfl, q _ _ L (Cl.same_new hn) hn upd_same RS.nd (fun p hp => ?_) fun p hp => ?_⟩
  · exact List.mem_of_mem_take (GT.sub p hp)
  · exact GT.all p (by rw [List.take_length]; exact hp)
theorem cr_lenG (hel : ∀ {pins σ H s b k}, Inv X pins σ H s → el H b k → knd.is s.heap k b) : CallR X (.builtin "len") (rLenG knd el) := by
  intro pins s σ H xs us Q I r ⟨a, L, e, ha, hk, q⟩
  subst e
  rw [Vals.ref1 r]
  obtain ⟨es, ep, t, R⟩ := S0G.full (I.hok a _ ha).1 fun p hp => hel I (hk p hp)
  exact call_lenG R ⟨.int L.length, H, I.tok _, ⟨_, rfl⟩, q⟩
end
/-! ### flat tuples -/
section
variable {X : Cx}
def elF (K : PySem.W.Frag) (H : Hp) (b : Addr) (k : List Int) : Prop := SqT K H b (k.map V.int)
theorem elF_is {pins : List (Addr × Obj)} {σ : L2.St} {H : Hp} {s : Shared} {b : Addr} {k : List Int} (I : Inv X pins σ H s) (h : elF X.K H b k) : (flatK X.prog X.w).is s.heap k b := I.isT h
def encF (k : List Int) : PyData := .tuple (k.map .int)
theorem reads_ints {h : Heap} : ∀ {k : List Int} {us : List Value}, IntsAre us k → ReadsAll h us (k.map .int) []
  | _, _, .nil => .nil
  | _, _, .cons n t r => .cons (.int _ _) (reads_ints r)
theorem readF {P : Program} {w : World} {h : Heap} {k : List Int} {b : Addr} (hk : (flatK P w).is h k b) : Reads h (.ref b) (encF k) [] := by
  obtain ⟨o, its, n, h1, h2, h3, h4⟩ := hk
  exact .tuple h1 h2 h3 (reads_ints (ints_of_items h4))
theorem depth_ints : ∀ k : List Int, PyData.depthAll (k.map .int) = 0
  | [] => rfl
  | n :: k => by
    show max 0 (PyData.depthAll (k.map .int)) = 0
    rw [depth_ints k]
    rfl
theorem depthF (k : List Int) : (encF k).depth = 1 := by
  show PyData.depthAll (k.map .int) + 1 = 1
  rw [depth_ints]
end
end SG

/-! The kind of tuples of flat tuples of whole numbers. -/
namespace SG
open PySem PySem.Spec PyProof.Rows L2 Cl
section
variable {P : Program} {w : World}
inductive EachT (P : Program) (w : World) (h : Heap) : List (List Int) → List Value → Prop
  | nil : EachT P w h [] []
  | cons {k ks b us} : L2.IsT P w h k b → EachT P w h ks us → EachT P w h (k :: ks) (.ref b :: us)
def IsTT (P : Program) (w : World) (h : Heap) (ks : List (List Int)) (a : Addr) : Prop :=
  ∃ o its n, h.get? a = some o ∧ o.cls = .type "tuple" ∧ o.data = .seq its n ∧ EachT P w h ks its.toList
theorem eachT_keep {h h' : Heap} (f : ∀ c o, h.get? c = some o → o.cls = .type "tuple" → h'.get? c = some o) : ∀ {ks us}, EachT P w h ks us → EachT P w h' ks us
  | _, _, .nil => .nil
  | _, _, .cons a r => .cons ((flatK P w).keep a f) (eachT_keep f r)
theorem eachT_mem {h : Heap} : ∀ {ks us}, EachT P w h ks us → ∀ u ∈ us, ∃ b k, u = .ref b ∧ L2.IsT P w h k b
  | _, _, .cons a r, u, hu => by
    rcases List.mem_cons.mp hu with z | z
    · exact ⟨_, _, z, a⟩
    · exact eachT_mem r u z
def encN (ks : List (List Int)) : PyData := .tuple (ks.map encF)
theorem readsT {h : Heap} : ∀ {ks us}, EachT P w h ks us → ReadsAll h us (ks.map encF) []
  | _, _, .nil => .nil
  | _, _, .cons a r => .cons (readF (P := P) (w := w) a) (readsT r)
theorem readN {h : Heap} {ks : List (List Int)} {a : Addr} (hk : IsTT P w h ks a) : Reads h (.ref a) (encN ks) [] := by
  obtain ⟨o, its, n, h1, h2, h3, h4⟩ := hk
  exact .tuple h1 h2 h3 (readsT h4)
theorem depth_flats : ∀ ks : List (List Int), PyData.depthAll (ks.map encF) ≤ 1
  | [] => Nat.zero_le _
  | k :: ks => by
    show max (encF k).depth (PyData.depthAll (ks.map encF)) ≤ 1
    have := depth_flats ks
    have := depthF k
    omega
theorem depthN (ks : List (List Int)) : (encN ks).depth ≤ 2 := by
  show PyData.depthAll (ks.map encF) + 1 ≤ 2
  have := depth_flats ks
  omega
theorem tyT {s : Shared} {ks : List (List Int)} {a : Addr} (hk : IsTT P w s.heap ks a) : s.TypeIs (.ref a) "tuple" := by
  obtain ⟨o, its, n, h1, h2, _⟩ := hk
  exact ⟨o, h1, h2⟩
def hashN (P : Program) (w : World) (ks : List (List Int)) : Int := reduceHash (Builtin.Tuple.tupleHashOf (ks.map (thash P w)))
theorem hash_loop {A : Around} {E : Value → Shared → Prop} (hu : A.units < cLine) : ∀ (ks : List (List Int)) (us : List Value) (b : Array Int) (s : Shared) (Q : Array Int → Shared → Prop), EachT P w s.heap ks us →
    (∀ tk b', b'.toList = b.toList ++ ks.map (thash P w) → Q b' { s with toks := tk }) →
    wpAny (model P w) A (forIn us b fun x r => do let h ← pyHash x; pure (ForInStep.yield (r.push h))) Q E s
  | _, _, b, s, Q, .nil, q => by
    rw [List.forIn_nil]
    exact wpAny_pure (q s.toks b (by simp))
  | _, _, b, s, Q, .cons (k := k) (ks := ks) (us := us) a r, q => by
    rw [List.forIn_cons]
    refine wpAny_bind (wpAny_bind (wpAny_pyHash_tuple hu a (wpAny_pure ?_)))
    dsimp only
    refine hash_loop hu ks us _ { s with toks := s.toks + (k.length + 1) } Q r fun tk b' e => q tk b' ?_
    rw [e, Array.toList_push, List.append_assoc]
    rfl
theorem pyHashN {A : Around} {E : Value → Shared → Prop} {s : Shared} {ks : List (List Int)} {a : Addr} {Q : Int → Shared → Prop} (hu : A.units + 2 < cLine) (hk : IsTT P w s.heap ks a)
    (q : ∀ tk, Q (hashN P w ks) { s with toks := tk }) : wpAny (model P w) A (pyHash (.ref a)) Q E s := by
  have ty := tyT hk
  obtain ⟨o, its, n, h1, h2, h3, h4⟩ := hk
  show wpAny (model P w) A (pyHashByItsType (.ref a)) Q E s
  refine PySem.W.pyHash_slot ty PySem.F.slot_tuple_hash PySem.F.entry_tuple_hash (PySem.F.args_tuple_hash_1 _) rfl (.inr (by omega)) ?_
  unfold Builtin.«tuple.__hash__»
  refine wpAny_bind (m := slotArgs _ _ _) (wpAny_pure ?_)
  dsimp only
  refine wpAny_bind (m := Builtin.Tuple.tupleItemsOf _) ?_
  unfold Builtin.Tuple.tupleItemsOf
  refine wpAny_bind (wpAny_seqItems h1 h3 ?_)
  dsimp only
  refine wpAny_pure ?_
  rw [← Array.forIn_toList]
  refine wpAny_bind (hash_loop (show A.in1.units < cLine by show A.units + 1 < cLine; omega) ks its.toList #[] s _ h4 fun tk b' e => ?_)
  refine wpAny_bind (m := mkInt _) (wpAny_mkInt (wpAny_pure ⟨_, _, rfl, ?_⟩))
  rw [e]
  exact q _
theorem eqv_ints : ∀ k l : List Int, PyData.eqvAll (k.map .int) (l.map .int) = decide (k = l)
  | [], [] => rfl
  | [], _ :: _ => rfl
  | _ :: _, [] => rfl
  | n :: k, m :: l => by
    show (n == m && PyData.eqvAll (k.map .int) (l.map .int)) = _
    rw [eqv_ints k l]
    by_cases h1 : n = m <;> by_cases h2 : k = l <;> simp [h1, h2]
theorem eqv_flats : ∀ k l : List (List Int), PyData.eqvAll (k.map encF) (l.map encF) = decide (k = l)
  | [], [] => rfl
  | [], _ :: _ => rfl
  | _ :: _, [] => rfl
  | n :: k, m :: l => by
    show (PyData.eqvAll (n.map .int) (m.map .int) && PyData.eqvAll (k.map encF) (l.map encF)) = _
    rw [eqv_flats k l, eqv_ints]
    by_cases h1 : n = m <;> by_cases h2 : k = l <;> simp [h1, h2]
theorem lay_ints : ∀ k : List Int, PyData.canLayAll0 (k.map .int) = true
  | [] => rfl
  | n :: k => lay_ints k
theorem lay_flats : ∀ k : List (List Int), PyData.canLayAll0 (k.map encF) = true
  | [] => rfl
  | n :: k => by
    show (PyData.canLayAll0 (n.map .int) && PyData.canLayAll0 (k.map encF)) = true
    rw [lay_ints, lay_flats k]
    rfl
theorem isTT_inj {h : Heap} {a : Addr} {x y : List (List Int)} (hx : IsTT P w h x a) (hy : IsTT P w h y a) : x = y := by
  obtain ⟨o, its, n, h1, h2, h3, h4⟩ := hx
  obtain ⟨o', its', n', g1, g2, g3, g4⟩ := hy
  rw [h1] at g1
  injection g1 with g1
  subst g1
  rw [h3] at g3
  injection g3 with g3 _
  subst g3
  generalize its.toList = us at h4 g4
  clear h1 h2 h3 g2
  induction h4 generalizing y with
  | nil => cases g4; rfl
  | cons q r ih =>
    cases g4 with
    | cons q' r' =>
      rw [ih r', (tupleKind (intKind P w)).inj q q']
theorem eqBN {A : Around} {E : Value → Shared → Prop} {s : Shared} {x y : List (List Int)} {a b : Addr} {Q : Bool → Shared → Prop} (hu : A.units + 2 < cLine) (hx : IsTT P w s.heap x a) (hy : IsTT P w s.heap y b)
    (q : ∀ tk, Q (decide (x = y)) { s with toks := tk }) : wpAny (model P w) A (eqBool (.ref a) (.ref b)) Q E s := by
  unfold eqBool
  refine wpAny_holding ?_
  by_cases e : a = b
  · subst e
    rw [if_pos (by simp)]
    have := isTT_inj hx hy
    subst this
    refine wpAny_bind (wpAny_rule (wpAny_pure ?_))
    have := q s.toks
    rw [decide_eq_true rfl] at this
    exact this
  · rw [if_neg (by simpa using e)]
    dsimp only
    refine wpAny_bind (SeqAt.compareEq_reads (readN hx) (readN hy) (lay_flats x) (lay_flats y) (by have := depthN x; have := depthN y; omega) ?_)
    have e2 : (encN x).eqv (encN y) = decide (x = y) := eqv_flats x y
    rw [e2]
    exact wpAny_pure (q s.toks)
theorem loop_all {A : Around} {E : Value → Shared → Prop} {s : Shared} {body : Value → Option Bool × Unit → Sem (ForInStep (Option Bool × Unit))} {Q : Option Bool × Unit → Shared → Prop} :
    ∀ (us : List Value), (∀ x ∈ us, ∀ R : ForInStep (Option Bool × Unit) → Shared → Prop, R (.yield (none, ())) s → wpAny (model P w) A (body x (none, ())) R E s) → Q (none, ()) s →
    wpAny (model P w) A (forIn us (none, ()) body) Q E s
  | [], _, q => by
    rw [List.forIn_nil]
    exact wpAny_pure q
  | u :: us, h, q => by
    rw [List.forIn_cons]
    refine wpAny_bind (h u List.mem_cons_self _ ?_)
    exact loop_all us (fun x hx => h x (List.mem_cons_of_mem _ hx)) q
theorem byFlat {A : Around} {E : Value → Shared → Prop} {s : Shared} {k : List Int} {a : Addr} {Q : Bool → Shared → Prop} (f : Nat) (hk : L2.IsT P w s.heap k a) (q : Q true s) : wpAny (model P w) A (hashByValue (f + 1) (.ref a)) Q E s := by
  obtain ⟨o, its, n, h1, h2, h3, h4⟩ := hk
  have ty : s.TypeIs (.ref a) "tuple" := ⟨o, h1, h2⟩
  rw [hashByValue.eq_def]
  dsimp only
  refine wpAny_bind (wpAny_specialOf ty PySem.F.slot_tuple_hash.lookup ?_)
  refine wpAny_bind (wpAny_seqItems h1 h3 ?_)
  dsimp only [Option.getD]
  rw [← Array.forIn_toList]
  have all := items_int h4
  refine wpAny_bind (loop_all its.toList (fun x hx R r => ?_) ?_)
  · obtain ⟨i, tk, rfl⟩ := all x hx
    rw [hashByValue.eq_def]
    exact wpAny_bind (wpAny_pure (by rw [if_neg (by decide)]; exact wpAny_pure r))
  · exact wpAny_pure q
theorem byN {A : Around} {E : Value → Shared → Prop} {s : Shared} {k : List (List Int)} {a : Addr} {Q : Bool → Shared → Prop} (hk : IsTT P w s.heap k a) (q : Q true s) : wpAny (model P w) A (hashByValue 8 (.ref a)) Q E s := by
  have ty := tyT hk
  obtain ⟨o, its, n, h1, h2, h3, h4⟩ := hk
  rw [hashByValue.eq_def]
  dsimp only
  refine wpAny_bind (wpAny_specialOf ty PySem.F.slot_tuple_hash.lookup ?_)
  refine wpAny_bind (wpAny_seqItems h1 h3 ?_)
  dsimp only [Option.getD]
  rw [← Array.forIn_toList]
  refine wpAny_bind (loop_all its.toList (fun x hx R r => ?_) ?_)
  · obtain ⟨b, k', rfl, hb⟩ := eachT_mem h4 x hx
    exact wpAny_bind (byFlat 6 hb (by rw [if_neg (by decide)]; exact wpAny_pure r))
  · exact wpAny_pure q
theorem statFlat {A : Around} {E : Value → Shared → Prop} {s : Shared} {k : List Int} {a : Addr} {Q : Bool → Shared → Prop} (f : Nat) (hk : L2.IsT P w s.heap k a) (q : Q false s) : wpAny (model P w) A (ofAClassStatement (f + 1) (.ref a)) Q E s := by
  obtain ⟨o, its, n, h1, h2, h3, h4⟩ := hk
  have ty : s.TypeIs (.ref a) "tuple" := ⟨o, h1, h2⟩
  rw [ofAClassStatement.eq_def]
  dsimp only
  refine wpAny_bind (wpAny_typeOf ty ?_)
  dsimp only
  rw [if_pos (by decide)]
  refine wpAny_bind (wpAny_pure ?_)
  rw [if_neg (by decide)]
  refine wpAny_bind (wpAny_seqItems h1 h3 ?_)
  dsimp only
  rw [← Array.forIn_toList]
  have all := items_int h4
  refine wpAny_bind (loop_all its.toList (fun x hx R r => ?_) ?_)
  · obtain ⟨i, tk, rfl⟩ := all x hx
    rw [ofAClassStatement.eq_def]
    exact wpAny_bind (wpAny_pure (by rw [if_neg (by decide)]; exact wpAny_pure r))
  · exact wpAny_pure q
theorem statN {A : Around} {E : Value → Shared → Prop} {s : Shared} {k : List (List Int)} {a : Addr} {Q : Bool → Shared → Prop} (hk : IsTT P w s.heap k a) (q : Q false s) : wpAny (model P w) A (ofAClassStatement 8 (.ref a)) Q E s := by
  have ty := tyT hk
  obtain ⟨o, its, n, h1, h2, h3, h4⟩ := hk
  rw [ofAClassStatement.eq_def]
  dsimp only
  refine wpAny_bind (wpAny_typeOf ty ?_)
  dsimp only
  rw [if_pos (by decide)]
  refine wpAny_bind (wpAny_pure ?_)
  rw [if_neg (by decide)]
  refine wpAny_bind (wpAny_seqItems h1 h3 ?_)
  dsimp only
  rw [← Array.forIn_toList]
  refine wpAny_bind (loop_all its.toList (fun x hx R r => ?_) ?_)
  · obtain ⟨b, k', rfl, hb⟩ := eachT_mem h4 x hx
    exact wpAny_bind (statFlat 6 hb (by rw [if_neg (by decide)]; exact wpAny_pure r))
  · exact wpAny_pure q
theorem quietFlat {A : Around} {E : Value → Shared → Prop} {s : Shared} {k : List Int} {a : Addr} {Q : Bool → Shared → Prop} (f : Nat) (hk : L2.IsT P w s.heap k a) (q : Q true s) : wpAny (model P w) A (eqIsQuiet (f + 1) (.ref a)) Q E s := by
  obtain ⟨o, its, n, h1, h2, h3, h4⟩ := hk
  have ty : s.TypeIs (.ref a) "tuple" := ⟨o, h1, h2⟩
  rw [eqIsQuiet.eq_def]
  dsimp only
  refine wpAny_bind (wpAny_specialOf ty PySem.F.slot_tuple_eq.lookup ?_)
  refine wpAny_bind (wpAny_isInstance ty (b := true) rfl ?_)
  rw [if_neg (by decide)]
  refine wpAny_bind (wpAny_seqItems h1 h3 ?_)
  dsimp only [Option.getD]
  rw [← Array.forIn_toList]
  have all := items_int h4
  refine wpAny_bind (loop_all its.toList (fun x hx R r => ?_) ?_)
  · obtain ⟨i, tk, rfl⟩ := all x hx
    rw [eqIsQuiet.eq_def]
    exact wpAny_bind (wpAny_pure (by rw [if_neg (by decide)]; exact wpAny_pure r))
  · exact wpAny_pure q
theorem quietN {A : Around} {E : Value → Shared → Prop} {s : Shared} {k : List (List Int)} {a : Addr} {Q : Bool → Shared → Prop} (hk : IsTT P w s.heap k a) (q : Q true s) : wpAny (model P w) A (eqIsQuiet 8 (.ref a)) Q E s := by
  have ty := tyT hk
  obtain ⟨o, its, n, h1, h2, h3, h4⟩ := hk
  rw [eqIsQuiet.eq_def]
  dsimp only
  refine wpAny_bind (wpAny_specialOf ty PySem.F.slot_tuple_eq.lookup ?_)
  refine wpAny_bind (wpAny_isInstance ty (b := true) rfl ?_)
  rw [if_neg (by decide)]
  refine wpAny_bind (wpAny_seqItems h1 h3 ?_)
  dsimp only [Option.getD]
  rw [← Array.forIn_toList]
  refine wpAny_bind (loop_all its.toList (fun x hx R r => ?_) ?_)
  · obtain ⟨b, k', rfl, hb⟩ := eachT_mem h4 x hx
    exact wpAny_bind (quietFlat 6 hb (by rw [if_neg (by decide)]; exact wpAny_pure r))
  · exact wpAny_pure q
theorem seenN {A : Around} {E : Value → Shared → Prop} {s : Shared} {k : List (List Int)} {b : Addr} {Q : Bool → Shared → Prop} (hk : IsTT P w s.heap k b) {ys : List Value}
    (hy : ∀ y ∈ ys, ∃ k' c, y = Value.ref c ∧ IsTT P w s.heap k' c) (q : Q false s) : wpAny (model P w) A (searchCouldBeSeen (.ref b) ys) Q E s := by
  unfold searchCouldBeSeen
  refine wpAny_bind (loop_all ys (fun y hy2 R r => ?_) ?_)
  · obtain ⟨k', c, rfl, hc⟩ := hy y hy2
    dsimp only
    split
    · exact wpAny_pure r
    · refine wpAny_bind (quietN hk ?_)
      rw [if_neg (by decide)]
      refine wpAny_bind (quietN hc ?_)
      rw [if_neg (by decide)]
      refine wpAny_bind (statN hk ?_)
      rw [if_neg (by decide)]
      refine wpAny_bind (statN hc ?_)
      rw [if_neg (by decide)]
      exact wpAny_pure r
  · exact wpAny_pure q
def nestK (P : Program) (w : World) : SKind P w (List (List Int)) where
  is := fun h k a => IsTT P w h k a
  hash := hashN P w
  room := 2
  keep := fun {h h' k a} hk f => by
    obtain ⟨o, its, n, h1, h2, h3, h4⟩ := hk
    exact ⟨o, its, n, f a o h1 h2, h2, h3, eachT_keep f h4⟩
  pyHash := fun {A E s k a Q} hu hk q => pyHashN hu hk q
  eqB := fun {A E s x y a b Q} hu hx hy q => eqBN hu hx hy q
  byVal := fun {A E s k a Q} hk q => byN hk q
  seen := fun {A E s k b Q} hk ys hy q => seenN hk hy q
end
section
variable {X : Cx}
/-- a tuple of flat tuples, in the words of a heap: `bs` are where they lie -/
def elN (K : PySem.W.Frag) (H : Hp) (b : Addr) (ks : List (List Int)) : Prop := ∃ bs : List Addr, SqT K H b (bs.map V.ref) ∧ bs.length = ks.length ∧ ∀ (i : Nat) (c : Addr) (k : List Int), bs[i]? = some c → ks[i]? = some k → SqT K H c (k.map V.int)
theorem elN_each {pins : List (Addr × Obj)} {σ : L2.St} {H : Hp} {s : Shared} (I : Inv X pins σ H s) : ∀ (bs : List Addr) (ks : List (List Int)) (us : List Value), Vals (bs.map V.ref) us → bs.length = ks.length →
    (∀ (i : Nat) (c : Addr) (k : List Int), bs[i]? = some c → ks[i]? = some k → SqT X.K H c (k.map V.int)) → EachT X.prog X.w s.heap ks us
  | [], [], _, .nil, _, _ => .nil
  | b :: bs, k :: ks, _, .cons r t, e, h => by
    cases r
    exact .cons (I.isT (h 0 b k rfl rfl)) (elN_each I bs ks _ t (by simpa using e) fun i c k' h1 h2 => h (i + 1) c k' h1 h2)
theorem elN_is {pins : List (Addr × Obj)} {σ : L2.St} {H : Hp} {s : Shared} {b : Addr} {ks : List (List Int)} (I : Inv X pins σ H s) (h : elN X.K H b ks) : (nestK X.prog X.w).is s.heap ks b := by
  obtain ⟨bs, h1, h2, h3⟩ := h
  obtain ⟨its, rv, ⟨o, g1, g2, n, g3⟩, _⟩ := I.tuple h1
  exact ⟨o, its.toArray, n, g1, g2, g3, by simpa using elN_each I bs ks its rv h2 h3⟩
end
end SG

/-! tuple(x) of anything that can be collected; tuple(d), d a dict whose keys are tuples. -/
namespace Cl
open PySem PySem.Spec PyProof.Rows L2
theorem call_tuple_any {P : Program} {w : World} {A : Around} {E : Value → Shared → Prop} {s : Shared} {v : Value} {T : String} {Q : Value → Shared → Prop} (ty : s.TypeIs v T) (hT : T ≠ "tuple")
    (hc : ∀ E', wpAny (model P w) A.in1.in1 (collect v) (fun vs s1 => vs.length ≤ sizeLine ∧ Q (.ref s1.heap.objs.size) { s1 with heap := s1.heap.push { cls := .type "tuple", data := .seq vs.toArray } }) E' s) :
    wpAny (model P w) A (call (.type "tuple") [v]) Q E s := by
  refine callType_newIn (S := fun A R s => wpAny (model P w) A.in1 (Builtin.«tuple.__new__» { pos := [.type "tuple", v] }) (fun fin s' => match fin with
      | .done f => R (.ok f) s'
      | .again c' => c'.quiet = true ∧ codeAny (model P w) A c' R s') (fun e s' => R (.error e) s') s) PySem.F.called_tuple rfl (PySem.F.typeCall_tuple_1 _) (PySem.F.newCall_tuple_1 _) (fun obj => PySem.F.args_object_init_2 _ _) PySem.F.entry_tuple_new (fun A R s h => h) ?_
  show wpAny (model P w) A.in1.in1 (Builtin.«tuple.__new__» { pos := [.type "tuple", v] }) _ _ s
  unfold Builtin.«tuple.__new__»
  dsimp only
  refine wpAny_bind (m := isType _) (wpAny_pure ?_)
  rw [if_neg (by decide)]
  refine wpAny_bind (m := isSubtype _ _) (wpAny_pure ?_)
  rw [if_neg (by decide)]
  rw [if_neg (by decide), madeHere_tuple]
  refine wpAny_bind (wpAny_pure ?_)
  rw [PySem.F.called_tuple.init.lookup]
  refine wpAny_bind (wpAny_pure ?_)
  rw [if_pos (by decide)]
  refine wpAny_bind (m := noKeywords _ _) (wpAny_pure ?_)
  refine wpAny_bind (m := checkCount _ _ _ _) (wpAny_pure ?_)
  rw [if_pos (by decide)]
  refine wpAny_bind (m := Builtin.Tuple.tupleIsExact _) (wpAny_bind (wpAny_typeOf ty (wpAny_pure ?_)))
  rw [if_neg (by intro z; exact hT (Value.type.inj (eq_of_beq z)))]
  refine wpAny_bind (wpAny_mono (hc fun _ _ => False) (fun vs s1 h => ?_) (fun _ _ z => z.elim))
  obtain ⟨hl, q⟩ := h
  refine wpAny_bind (wpAny_pure ?_)
  refine wpAny_bind (m := newTuple vs) (wpAny_newTuple ?_ hl)
  exact wpAny_pure ⟨⟨_, Heap.get?_push_size _ rfl, rfl⟩, q⟩
/-- tuple(d), the keys of d tuples -/
def rTupDT : List V → Hp → VK → Prop := fun vs H Q => ∃ (d : Addr) (kvs : List (List Key × V)), vs = [.ref d] ∧ H d = some (.dT kvs) ∧
  ∀ bs : List Addr, IsKeys H kvs bs → New H (.tup (bs.map V.ref)) Q
section
variable {X : Cx}
theorem kt_keys {H : Hp} : ∀ {kvs : List (List Key × V)} {ks : List (List Key × Addr × Value)}, KT H kvs ks → IsKeys H kvs (ks.map fun x => x.2.1)
  | [], [], .nil => .nil
  | _ :: _, _ :: _, .cons h t => .cons h.2.1 (kt_keys t)
theorem cr_tupDT (hc : X.calm = true) : CallR X (.type "tuple") rTupDT := by
  intro pins s σ H vs us Q I r h
  obtain ⟨d, kvs, rfl, hd, q⟩ := h
  obtain ⟨u, rfl, rx⟩ := vals1 r
  cases rx
  obtain ⟨hz0, lo, ks, pr, o, es, ep, ho, hx, hdt, he, hn⟩ := (I.hok d _ hd : ObjOk X.prog X.w H s.heap d (.dT kvs))
  have l1 : es.size = ks.length := size_of_entries he
  have l2 : kvs.length = ks.length := Paired.length pr
  refine call_tuple_any (T := "dict") ⟨o, ho, hx.1⟩ (by decide) fun E' => ?_
  refine PySem.W.kdu_collect (A := X.A.in1.in1) (kdl_raw lo hx hdt) (I.ok.hd hc) ho (by omega) fun h' tk acc hkp it => ?_
  have ea : acc.toList = ks.map fun x => Value.ref x.2.1 := by
    apply List.ext_getElem?
    intro j
    have lt1 : acc.toList.length = ks.length := by rw [Array.length_toList, it.1, l1]
    by_cases hj : j < ks.length
    · obtain ⟨en, hen, hv⟩ := it.2 j _ (Array.getElem?_eq_getElem (by rw [it.1, l1]; exact hj))
      have qe := entry_at he j
      rw [hen, List.getElem?_eq_getElem hj] at qe
      rw [Array.getElem?_toList, Array.getElem?_eq_getElem (by rw [it.1, l1]; exact hj), List.getElem?_map, List.getElem?_eq_getElem hj, hv, Option.some.inj qe]
      rfl
    · rw [List.getElem?_eq_none (by omega), List.getElem?_eq_none (by rw [List.length_map]; omega)]
  have I1 : Inv X pins σ H { s with heap := h', toks := tk } := I.kept hkp
  have la : acc.toList.length ≤ sizeLine := by rw [ea, List.length_map]; omega
  refine ⟨la, ?_⟩
  have vr : ∀ M : List (List Key × Addr × Value), Vals ((M.map fun x => x.2.1).map V.ref) (M.map fun x => Value.ref x.2.1) := fun M => by
    induction M with
    | nil => exact .nil
    | cons q M ih => exact .cons rfl ih
  have hg : (h'.push { cls := .type "tuple", data := .seq acc.toList.toArray }).get? h'.objs.size = some { cls := .type "tuple", data := .seq acc.toList.toArray } := Heap.get?_push_size _ rfl
  have hfr := I1.hok.fresh (a := h'.objs.size) (Nat.le_refl _)
  refine ⟨.ref h'.objs.size, _, I1.laid (t' := tk) (o := .tup ((ks.map fun x => x.2.1).map V.ref)) (fun b o e => Heap.get?_push_of_some _ e) (Nat.le_refl _) ?_, rfl, (q _ (kt_keys pr)).go _ hfr⟩
  refine ⟨by rw [List.length_map, List.length_map]; omega, acc.toList, by rw [ea]; exact vr ks, _, hg, rfl, 0, ?_⟩
  simp
end
end Cl

set_option maxHeartbeats 0
/-! sorted(d), d a dict whose keys are flat tuples of whole numbers -/
namespace Cl
open PySem PySem.Spec PyProof.Rows L2
def flatKey (k : List Int) : List Key := k.map Sum.inl
theorem kV_flat (k : List Int) : (flatKey k).map kV = k.map V.int := by
  unfold flatKey
  rw [List.map_map]
  rfl
def rSortedDF (K : PySem.W.Frag) : List V → Hp → VK → Prop := fun vs H Q => ∃ (d : Addr) (kvs : List (List Key × V)) (ks : List (List Int)), vs = [.ref d] ∧ H d = some (.dT kvs) ∧ kvs.map (·.1) = ks.map flatKey ∧
  PySem.W.AllAlike (ks.map SG.encF) ∧ PySem.W.Sortable (ks.map SG.encF) ∧
  ∀ L' : List (Addr × List Int), (L'.map (·.2)).Perm ks → L'.Pairwise (SG.leG SG.encF) → (∀ p ∈ L', SG.elF K H p.1 p.2) → New H (.lst (L'.map fun q => V.ref q.1)) Q
section
variable {X : Cx}
theorem keys_flat {K : PySem.W.Frag} {H : Hp} : ∀ {kvs : List (List Key × V)} {xs : List (List Key × Addr × Value)} {ks : List (List Int)}, KT H kvs xs → kvs.map (·.1) = ks.map flatKey →
    ∃ L : List (Addr × List Int), L.map (·.2) = ks ∧ xs.map (fun x => x.2.1) = L.map (·.1) ∧ ∀ p ∈ L, SG.elF K H p.1 p.2
  | [], _, [], .nil, _ => ⟨[], rfl, rfl, fun _ h => nomatch h⟩
  | [], _, _ :: _, .nil, e => nomatch e
  | _ :: _, _ :: _, [], .cons _ _, e => nomatch e
  | kv :: kvs, x :: xs, k :: ks, .cons h t, e => by
    rw [List.map_cons, List.map_cons] at e
    obtain ⟨e1, e2⟩ := List.cons.inj e
    obtain ⟨L, i1, i2, i3⟩ := keys_flat (K := K) t e2
    have h2 : H x.2.1 = some (.tup (k.map V.int)) := by rw [← kV_flat, ← e1]; exact h.2.1
    refine ⟨(x.2.1, k) :: L, by rw [List.map_cons, i1], by rw [List.map_cons, List.map_cons, i2], fun p hp => ?_⟩
    rcases List.mem_cons.mp hp with z | z
    · rw [z]; exact .inl (.inl h2)
    · exact i3 p z
theorem cr_sortedDF (hc : X.calm = true) (hu : X.A.units + 64 < cLine) : CallR X (.builtin "sorted") (rSortedDF X.K) := by
  intro pins s σ H vs us Q I r h
  obtain ⟨d, kvs, ks0, rfl, hd, hk, hal, hso, q⟩ := h
  obtain ⟨u, rfl, rx⟩ := vals1 r
  cases rx
  obtain ⟨hz0, lo, ks, pr, o, es, ep, ho, hx, hdt, he, hn⟩ := (I.hok d _ hd : ObjOk X.prog X.w H s.heap d (.dT kvs))
  obtain ⟨L, c1, c2, c3⟩ := keys_flat (K := X.K) pr hk
  have l1 : es.size = ks.length := size_of_entries he
  have l2 : kvs.length = ks.length := Paired.length pr
  refine Calls.call_function_entry kind_sorted plain_sorted entry_sorted (args_sorted1 _) ?_
  unfold Builtin.«sorted»
  refine wpAny_bind (m := checkCount "sorted" 1 1 _) (wpAny_pure (wpAny_bind (PySem.W.kdu_collect (A := X.A.in1) (kdl_raw lo hx hdt) (I.ok.hd hc) ho (by omega) fun h' tk acc hkp it => ?_)))
  have ea : acc.toList = ks.map fun x => Value.ref x.2.1 := by
    apply List.ext_getElem?
    intro j
    have lt1 : acc.toList.length = ks.length := by rw [Array.length_toList, it.1, l1]
    by_cases hj : j < ks.length
    · obtain ⟨en, hen, hv⟩ := it.2 j _ (Array.getElem?_eq_getElem (by rw [it.1, l1]; exact hj))
      have qe := entry_at he j
      rw [hen, List.getElem?_eq_getElem hj] at qe
      rw [Array.getElem?_toList, Array.getElem?_eq_getElem (by rw [it.1, l1]; exact hj), List.getElem?_map, List.getElem?_eq_getElem hj, hv, Option.some.inj qe]
      rfl
    · rw [List.getElem?_eq_none (by omega), List.getElem?_eq_none (by rw [List.length_map]; omega)]
  have I1 : Inv X pins σ H { s with heap := h', toks := tk } := I.kept hkp
  have la : acc.toList.length ≤ sizeLine := by rw [ea, List.length_map]; omega
  have eL : acc.toList = L.map fun q => Value.ref q.1 := by
    rw [ea]
    have := congrArg (List.map Value.ref) c2
    rw [List.map_map, List.map_map] at this
    exact this
  have lL : L.length = acc.toList.length := by rw [eL, List.length_map]
  obtain ⟨s1, es1⟩ : ∃ s1 : Shared, s1 = { s with heap := h', toks := tk } := ⟨_, rfl⟩
  rw [← es1] at I1
  show wpAny _ _ _ _ _ { s with heap := h', toks := tk }
  rw [← es1]
  refine wpAny_bind (wpAny_newList ?_ la)
  have oL : (s1.heap.push (seqObj "list" acc.toList.toArray 0)).get? s1.heap.objs.size = some (seqObj "list" acc.toList.toArray 0) := Heap.get?_push_size _ rfl
  have reads : ∀ q ∈ L, Reads (s1.heap.push (seqObj "list" acc.toList.toArray 0)) (.ref q.1) (SG.encF q.2) [] := fun q hq =>
    SG.readF (P := X.prog) (w := X.w) ((SG.flatK X.prog X.w).keep (SG.elF_is I1 (c3 q hq)) fun c o' hc _ => Heap.get?_push_of_some _ hc)
  have each : ∀ l : List (Addr × List Int), (∀ q ∈ l, q ∈ L) → PySem.W.EachIs (fun (v : Value) (q : Addr × List Int) => v = .ref q.1) (l.map fun q => Value.ref q.1) l ∧
      PySem.W.EachIs (fun v q => ∃ as, Reads (s1.heap.push (seqObj "list" acc.toList.toArray 0)) v ((fun q : Addr × List Int => SG.encF q.2) q) as ∧ s1.heap.objs.size ∉ as) (l.map fun q => Value.ref q.1) l := by
    intro l
    induction l with
    | nil => intro _; exact ⟨.nil, .nil⟩
    | cons q l ih =>
      intro h
      obtain ⟨i1, i2⟩ := ih fun r hr => h r (List.mem_cons_of_mem _ hr)
      exact ⟨.cons rfl i1, .cons ⟨[], reads q (h q List.mem_cons_self), fun z => nomatch z⟩ i2⟩
  obtain ⟨e1, e2⟩ := each L fun q hq => hq
  rw [← eL] at e1 e2
  have em : L.map (fun p : Addr × List Int => SG.encF p.2) = ks0.map SG.encF := by rw [← c1, List.map_map]; rfl
  have hso1 : PySem.W.Sortable (L.map fun q : Addr × List Int => SG.encF q.2) := by rw [em]; exact hso
  have hal1 : PySem.W.AllAlike (L.map fun q : Addr × List Int => SG.encF q.2) := by rw [em]; exact hal
  refine wpAny_bind (wpAny_holding (PySem.W.list_sort_data (s := { s1 with heap := s1.heap.push (seqObj "list" acc.toList.toArray 0) }) (enc := fun q : Addr × List Int => SG.encF q.2) oL e1 e2 hal1 hso1 (by omega)
    (fun b hb => by have := SG.depthF b.2; show X.A.units + 1 + 1 + (SG.encF b.2).depth < cLine; omega) fun out a1 a2 => ?_))
  obtain ⟨c, hc⟩ := sortedHeap_at (vs := acc.toList) (out := out.toArray) oL
  have eo : out = (L.mergeSort (PySem.W.dataLe false fun q : Addr × List Int => SG.encF q.2)).map fun q => Value.ref q.1 := by
    revert a2
    generalize L.mergeSort (PySem.W.dataLe false fun q : Addr × List Int => SG.encF q.2) = M
    intro a2
    clear hc a1
    induction a2 with
    | nil => rfl
    | cons h t ih => rw [List.map_cons, ← ih, h]
  have pM : (L.mergeSort (PySem.W.dataLe false fun q : Addr × List Int => SG.encF q.2)).Perm L := List.mergeSort_perm _ _
  have tot : PySem.W.TotalLe (PySem.W.dataLe false fun q : Addr × List Int => SG.encF q.2) := PySem.W.sortLe_total ..
  have pw : (L.mergeSort (PySem.W.dataLe false fun q : Addr × List Int => SG.encF q.2)).Pairwise (SG.leG SG.encF) :=
    List.pairwise_mergeSort tot.trans (fun x y => by rw [Bool.or_eq_true]; exact tot.total x y) L
  generalize L.mergeSort (PySem.W.dataLe false fun q : Addr × List Int => SG.encF q.2) = M at eo pM pw
  have hfr := I1.hok.fresh (a := s1.heap.objs.size) (Nat.le_refl _)
  have vr : ∀ M : List (Addr × List Int), Vals (M.map fun q => V.ref q.1) (M.map fun q => Value.ref q.1) := fun M => by
    induction M with
    | nil => exact .nil
    | cons q M ih => exact .cons rfl ih
  refine wpAny_pure ⟨_, rfl, ?_⟩
  have old : ∀ b u, s1.heap.get? b = some u → (sortedHeap (s1.heap.push (seqObj "list" acc.toList.toArray 0)) s1.heap.objs.size acc.toList out.toArray).get? b = some u := fun b u e5 => by
    have lt5 := Heap.lt_size e5
    rw [sortedHeap_old (Nat.ne_of_lt lt5) (by rw [show (s1.heap.push (seqObj "list" acc.toList.toArray 0)).objs.size = s1.heap.objs.size + 1 from Array.size_push ..]; exact Nat.lt_succ_of_lt lt5)]
    exact Heap.get?_push_of_some _ e5
  refine ⟨.ref s1.heap.objs.size, _, I1.laid (t' := s1.toks) (o := .lst (M.map fun q => V.ref q.1)) old (Nat.le_refl _) ?_, rfl, (q M (by rw [← c1]; exact pM.map _) pw fun p hp => c3 p (pM.mem_iff.mp hp)).go _ hfr⟩
  refine ⟨by rw [List.length_map, pM.length_eq]; omega, out, c, by rw [eo]; exact vr M, hc⟩
end
end Cl

/-! sorted(list) of data of any kind -/
namespace Cl
open PySem PySem.Spec PyProof.Rows L2
section
variable {X : Cx} {pins : List (Addr × Obj)} {σ : L2.St} {H : Hp} {s : Shared}
theorem reads_each (I : Inv X pins σ H s) : ∀ {bs : List (V × PyData)} {us : List Value}, (∀ p ∈ bs, Dp X.K H p.1 p.2) → Vals (bs.map (·.1)) us → PySem.W.EachIs (fun v (p : V × PyData) => ∃ as, Reads s.heap v ((fun p : V × PyData => p.2) p) as) us bs
  | [], _, _, .nil => .nil
  | p :: _, _, h, .cons r rr => .cons (Dp.reads I _ _ _ (h p List.mem_cons_self) r) (reads_each I (fun q hq => h q (List.mem_cons_of_mem _ hq)) rr)
def rSortedD (K : PySem.W.Frag) : List V → Hp → VK → Prop := fun vs H Q => ∃ (a : Addr) (bs : List (V × PyData)), vs = [V.ref a] ∧ SqL K H a (bs.map (·.1)) ∧ (∀ p ∈ bs, Dp K H p.1 p.2) ∧
  PySem.W.AllAlike (bs.map (·.2)) ∧ PySem.W.Sortable (bs.map (·.2)) ∧ (∀ p ∈ bs, p.2.depth ≤ 50) ∧
  ∀ bs' : List (V × PyData), bs'.Perm bs → bs'.Pairwise keyLe → New H (.lst (bs'.map (·.1))) Q
theorem cr_sortedD {X : Cx} (hu : X.A.units + 64 < cLine) : CallR X (.builtin "sorted") (rSortedD X.K) := by
  intro pins s σ H vs us Q I r ⟨a, bs, e, hS, hd, h1, h2, h3, q⟩
  subst e
  rw [Vals.ref1 r]
  obtain ⟨its, rv, hil, hz⟩ := I.list hS
  have ln : its.length = bs.length := by
    have := rv.length
    rw [List.length_map] at this
    omega
  have hZ : bs.length ≤ sizeLine := by
    have : (bs.map (·.1)).length ≤ sizeLine := hz
    rwa [List.length_map] at this
  refine PySem.W.sorted_data (enc := fun p : V × PyData => p.2) hil.isList (vals_each rv) (reads_each I hd rv) h1 h2 hZ (fun p hp => by have := h3 p hp; omega) fun out lo eo => ?_
  have pm : (bs.mergeSort (PySem.W.dataLe false fun p : V × PyData => p.2)).Perm bs := List.mergeSort_perm _ _
  have tot : PySem.W.TotalLe (PySem.W.dataLe false fun p : V × PyData => p.2) := PySem.W.sortLe_total ..
  have pw : (bs.mergeSort (PySem.W.dataLe false fun p : V × PyData => p.2)).Pairwise keyLe := List.pairwise_mergeSort tot.trans (fun x y => by rw [Bool.or_eq_true]; exact tot.total x y) bs
  have hn : H (s.heap.objs.size + 1) = none := I.hok.fresh (Nat.le_succ _)
  have fa : FpOk X pins H (s.heap.objs.size + 1) := I.fpOk (Nat.le_succ _) hn
  obtain ⟨c, hc⟩ := PyProof.Rows.sortedAll_at s.heap its out.toArray
  exact ⟨.ref _, _, inv_adopt (out := out.toArray) I fa fa (fun b o n _ e => sortedAll_old e) hc (each_vals eo) (by rw [List.length_map, pm.length_eq]; exact hZ), rfl, (q _ pm pw).go _ hn⟩
end
end Cl

set_option maxHeartbeats 0
namespace Cl
open PySem PySem.Spec PyProof.Rows L2
open GxR (TabB TabG)

/-! spots as elements of sets and of sorted lists -/
def key2 (s : Pt) : List Int := [s.1, s.2]
def unkey2 : List Int → Pt
  | [a, b] => (a, b)
  | _ => (0, 0)
theorem unkey2_key (s : Pt) : unkey2 (key2 s) = s := rfl
def leC (s t : Pt) : Prop := SG.leG SG.encF ((0 : Addr), key2 s) ((0 : Addr), key2 t)
theorem leC_antisymm {s t : Pt} (h1 : leC s t) (h2 : leC t s) : s = t := by
  unfold leC SG.leG PySem.W.dataLe PySem.W.sortLe at h1 h2
  have e := (listOrd itemOrd).total (PySem.W.keyToks (SG.encF (key2 t))) (PySem.W.keyToks (SG.encF (key2 s))) (by simpa using h1) (by simpa using h2)
  obtain ⟨a, b⟩ := s
  obtain ⟨a', b'⟩ := t
  have e2 : ([.inl 1, .inl a', .inl 1, .inl b', .inl 0] : List (Int ⊕ List Nat)) = [.inl 1, .inl a, .inl 1, .inl b, .inl 0] := e
  simp at e2
  obtain ⟨x1, x2⟩ := e2
  rw [x1, x2]
theorem s2_unique {ls ms : List Pt} (n1 : ls.Nodup) (n2 : ms.Nodup) (s1 : ls.Pairwise leC) (s2 : ms.Pairwise leC) (h : ∀ l, l ∈ ls ↔ l ∈ ms) : ls = ms :=
  List.Perm.eq_of_pairwise (fun a b _ _ h1 h2 => leC_antisymm h1 h2) s1 s2 ((List.perm_ext_iff_of_nodup n1 n2).mpr h)
theorem s2_ks {K : PySem.W.Frag} {H : Hp} : ∀ {ws : List V} {ss : List Pt}, AllAt (At2 K H) ws ss → ∃ ks : List (Addr × List Int), ws = ks.map (fun p => V.ref p.1) ∧ ks.map (·.2) = ss.map key2 ∧ ∀ p ∈ ks, SG.elF K H p.1 p.2
  | _, _, .nil => ⟨[], rfl, rfl, fun _ z => nomatch z⟩
  | _, _, .cons (x := s) h t => by
    obtain ⟨ks, e1, e2, e3⟩ := s2_ks t
    obtain ⟨b, rfl, hb⟩ := h
    refine ⟨(b, key2 s) :: ks, by rw [e1]; rfl, by rw [List.map_cons, List.map_cons, e2], fun p hp => ?_⟩
    rcases List.mem_cons.mp hp with z | z
    · rw [z]; exact hb
    · exact e3 p z
theorem ks_s2 {K : PySem.W.Frag} {H : Hp} : ∀ (ks : List (Addr × List Int)), (∀ p ∈ ks, SG.elF K H p.1 p.2 ∧ ∃ s, p.2 = key2 s) → AllAt (At2 K H) (ks.map fun p => V.ref p.1) (ks.map fun p => unkey2 p.2)
  | [], _ => .nil
  | p :: ks, h => by
    obtain ⟨h1, l, e⟩ := h p List.mem_cons_self
    refine .cons ?_ (ks_s2 ks fun q hq => h q (List.mem_cons_of_mem _ hq))
    show At2 K H (.ref p.1) (unkey2 p.2)
    rw [e] at h1 ⊢
    exact ⟨p.1, rfl, h1⟩
theorem elF_same2 {K : PySem.W.Frag} {H H' : Hp} {b : Addr} {k : List Int} (h : SG.elF K H b k) (s : Same H H') : SG.elF K H' b k := seT s h
theorem keyed {ks : List (Addr × List Int)} {ss : List Pt} (e : ks.map (·.2) = ss.map key2) : ∀ p ∈ ks, ∃ s ∈ ss, p.2 = key2 s := fun p hp => by
  have : p.2 ∈ ss.map key2 := by rw [← e]; exact List.mem_map.mpr ⟨p, hp, rfl⟩
  obtain ⟨s, h1, h2⟩ := List.mem_map.mp this
  exact ⟨s, h1, h2.symm⟩
theorem alike2 {ds : List PyData} (h : ∀ d ∈ ds, ∃ s, d = SG.encF (key2 s)) : PySem.W.AllAlike ds ∧ PySem.W.Sortable ds := by
  refine ⟨fun d hd d' hd' => ?_, .inl fun d hd => ?_⟩
  · obtain ⟨s, e⟩ := h d hd
    obtain ⟨s', e'⟩ := h d' hd'
    rw [e, e']
    rfl
  · obtain ⟨s, e⟩ := h d hd
    exact ⟨_, _, by rw [e]; rfl⟩
theorem leG_leC {p r : Addr × List Int} {s t : Pt} (e : p.2 = key2 s) (e' : r.2 = key2 t) (h : SG.leG SG.encF p r) : leC s t := by
  unfold SG.leG at h
  unfold leC SG.leG
  have f : ∀ x y : Addr × List Int, PySem.W.dataLe false (fun q : Addr × List Int => SG.encF q.2) x y = PySem.W.dataLe false (fun q : Addr × List Int => SG.encF q.2) ((0 : Addr), x.2) ((0 : Addr), y.2) := fun _ _ => rfl
  rw [f, e, e'] at h
  exact h
theorem nodup_of_map2 {α β : Type} {f : α → β} : ∀ {l : List α}, (l.map f).Nodup → l.Nodup
  | [], _ => .nil
  | a :: l, h => by
    rw [List.map_cons] at h
    obtain ⟨h1, h2⟩ := List.nodup_cons.mp h
    exact List.nodup_cons.mpr ⟨fun z => h1 (List.mem_map.mpr ⟨a, z, rfl⟩), nodup_of_map2 h2⟩
theorem pts_out {K : PySem.W.Frag} {H : Hp} {ks L L' : List (Addr × List Int)} {ss0 : List Pt} (e2 : ks.map (·.2) = ss0.map key2) (e3 : ∀ p ∈ ks, SG.elF K H p.1 p.2) (nd : (L.map (·.2)).Nodup) (sub : ∀ p ∈ L, p ∈ ks) (sup : ∀ p ∈ ks, p.2 ∈ L.map (·.2))
    (pm : L'.Perm L) (pw : L'.Pairwise (SG.leG SG.encF)) : ∃ ss : List Pt, AllAt (At2 K H) (L'.map fun q => V.ref q.1) ss ∧ ss.Nodup ∧ ss.Pairwise leC ∧ ∀ s, s ∈ ss ↔ s ∈ ss0 := by
  have key : ∀ p ∈ L', ∃ s ∈ ss0, p.2 = key2 s := fun p hp => keyed e2 p (sub p (pm.mem_iff.mp hp))
  refine ⟨L'.map fun p => unkey2 p.2, ks_s2 L' fun p hp => ?_, ?_, ?_, fun s => ⟨fun hs => ?_, fun hs => ?_⟩⟩
  · obtain ⟨s, _, h2⟩ := key p hp
    exact ⟨e3 p (sub p (pm.mem_iff.mp hp)), s, h2⟩
  · have nd2 : (L'.map (·.2)).Nodup := (pm.map (·.2)).nodup_iff.mpr nd
    have : L'.map (·.2) = (L'.map fun p => unkey2 p.2).map key2 := by
      rw [List.map_map]
      refine List.map_congr_left fun p hp => ?_
      obtain ⟨s, _, h2⟩ := key p hp
      show p.2 = key2 (unkey2 p.2)
      rw [h2]
      rfl
    rw [this] at nd2
    exact nodup_of_map2 nd2
  · refine List.pairwise_map.mpr (List.Pairwise.imp_of_mem (fun {p r} hp hr hle => ?_) pw)
    obtain ⟨s, _, h2⟩ := key p hp
    obtain ⟨t, _, h3⟩ := key r hr
    rw [h2, h3]
    exact leG_leC h2 h3 hle
  · obtain ⟨p, hp, e⟩ := List.mem_map.mp hs
    obtain ⟨s', h1, h2⟩ := key p hp
    rw [h2] at e
    rw [← e]
    exact h1
  · have : key2 s ∈ ks.map (·.2) := by rw [e2]; exact List.mem_map.mpr ⟨s, hs, rfl⟩
    obtain ⟨p, hp, e⟩ := List.mem_map.mp this
    obtain ⟨p', hp3, e'⟩ := List.mem_map.mp (sup p hp)
    refine List.mem_map.mpr ⟨p', pm.mem_iff.mpr hp3, ?_⟩
    show unkey2 p'.2 = s
    rw [e', e]
    rfl

theorem zip_fst {α β : Type} : ∀ {as : List α} {bs : List β}, as.length = bs.length → (as.zip bs).map (·.1) = as
  | [], [], _ => rfl
  | a :: as, b :: bs, h => by
    rw [List.zip_cons_cons, List.map_cons, zip_fst (by simpa using h)]
theorem allAt_zip {α : Type} {R : V → α → Prop} : ∀ {vs : List V} {xs : List α}, AllAt R vs xs → ∀ p ∈ vs.zip xs, R p.1 p.2
  | _, _, .nil, p, hp => nomatch hp
  | _, _, .cons h t, p, hp => by
    rw [List.zip_cons_cons] at hp
    rcases List.mem_cons.mp hp with z | z
    · rw [z]; exact h
    · exact allAt_zip t p z
theorem perm_map_of {α β : Type} {f : α → β} : ∀ {l : List α} {m : List β}, m.Perm (l.map f) → ∃ l' : List α, l'.Perm l ∧ m = l'.map f := by
  intro l m h
  generalize e : l.map f = k at h
  induction h generalizing l with
  | nil =>
    cases l with
    | nil => exact ⟨[], .nil, rfl⟩
    | cons a l => cases e
  | @cons x l1 l2 hp ih =>
    cases l with
    | nil => cases e
    | cons a l =>
      rw [List.map_cons] at e
      injection e with e1 e2
      obtain ⟨l', p, e3⟩ := ih e2
      exact ⟨a :: l', p.cons a, by rw [List.map_cons, e1, e3]⟩
  | swap x y l0 =>
    match l, e with
    | a :: b :: l, e =>
      rw [List.map_cons, List.map_cons] at e
      injection e with e1 e2
      injection e2 with e2 e3
      exact ⟨b :: a :: l, .swap .., by rw [List.map_cons, List.map_cons, e1, e2, e3]⟩
    | [_], e => cases e
    | [], e => cases e
  | trans h1 h2 ih1 ih2 =>
    obtain ⟨l2, p2, e2⟩ := ih2 e
    obtain ⟨l1, p1, e1⟩ := ih1 e2.symm
    exact ⟨l1, p1.trans p2, e1⟩

end Cl

set_option maxHeartbeats 0
/-! a lambda whose parameter is a cell (its body holds a comprehension); sorted by it -/
namespace Cl
open PySem PySem.Spec PyProof.Rows L2
theorem wpAny_newEnv_one {M : Model} {A : Around} {E : Value → Shared → Prop} {s : Shared} {scope : Scope} {globals builtins : Addr} {closure : List (Str × Addr)} {a qual : Str} {u code : Value} {func : Option Addr} {Q : Env → Shared → Prop}
    (hk : scope.kind = .function) (ha : scope.names.lookup a = some .cell) (h1 : ∀ n acc, cellsFrom n scope.names acc = (a, n) :: acc) (h2 : ∀ h, pushCells h scope.names = h.push { cls := .type "cell", data := .cell none })
    (hQ : ∀ h', (∀ b o, s.heap.get? b = some o → h'.get? b = some o) → h'.Ns s.heap.objs.size (fun _ => none) → h'.IsCell (s.heap.objs.size + 1) (some u) →
      Q (newEnv scope s.heap.objs.size globals ((a, s.heap.objs.size + 1) :: closure) qual func code none builtins) { s with heap := h' }) :
    wpAny M A (newFunctionEnv scope globals closure [(a, u)] qual func code none builtins) Q E s := by
  simp only [newFunctionEnv, Option.isSome_none, Bool.false_eq_true, if_false]
  refine wpAny_bind (wpAny_alloc ?_)
  refine wpAny_bind (wpAny_layCells _ (fun name kind cells => by cases hkc : kind == NameKind.cell <;> simp [hkc]) _ _ _ _ ?_)
  rw [h1, h2, show ({ s with heap := s.heap.push { cls := .type "frame", data := .dict #[] } } : Shared).heap.objs.size = s.heap.objs.size + 1 from Heap.size_push ..]
  rw [List.forIn_cons]
  have hc : ((s.heap.push { cls := .type "frame", data := .dict #[] }).push { cls := .type "cell", data := .cell none }).IsCell (s.heap.objs.size + 1) none := by
    refine ⟨{ cls := .type "cell", data := .cell none }, ?_, rfl⟩
    have e : (s.heap.push { cls := .type "frame", data := .dict #[] }).objs.size = s.heap.objs.size + 1 := Heap.size_push ..
    rw [← e]
    exact Heap.get?_push_size _ rfl
  refine wpAny_bind (wpAny_bind (wpAny_bind (wpAny_storeName_cell (env := newEnv scope s.heap.objs.size globals ((a, s.heap.objs.size + 1) :: closure) qual func code none builtins) (c := s.heap.objs.size + 1) (v₀ := none) hk ha (by simp [newEnv]) hc fun h' hc' hs' => wpAny_pure ?_)))
  dsimp only
  rw [List.forIn_nil]
  refine wpAny_pure (wpAny_pure (hQ h' (fun b o e => ?_) ?_ hc'))
  · refine hs'.extBut b o (Nat.ne_of_lt (Nat.lt_succ_of_lt (Heap.lt_size e))) ?_
    exact Heap.get?_push_of_some _ (Heap.get?_push_of_some _ e)
  · have n0 := (Heap.Ns.new s.heap (.type "frame")).keeps (h' := (s.heap.push { cls := .type "frame", data := .dict #[] }).push { cls := .type "cell", data := .cell none }) (fun b o e => Heap.get?_push_of_some _ e)
    exact n0.sameBut hs' (Nat.ne_of_lt (Nat.lt_succ_self _))
/-- a lambda's scope: its one parameter a cell, captured names, globals -/
structure LamC (sc scope : Scope) (a : Str) : Prop where
  kind : scope.kind = .function
  co : scope.isCoroutine = false
  gen : scope.isGenerator = false
  par : scope.names.lookup a = some .cell
  own : ∀ y ∈ scope.names, y.2 = .cell → y.1 = a
  noloc : ∀ y ∈ scope.names, y.2 ≠ .local
  one : ∀ n acc, cellsFrom n scope.names acc = (a, n) :: acc
  push : ∀ h, pushCells h scope.names = h.push { cls := .type "cell", data := .cell none }
  free : ∀ y ∈ scope.names, y.2 = .free → sc.names.lookup y.1 = some .cell ∨ sc.names.lookup y.1 = some .free
def lamCB (sc scope : Scope) (a : Str) : Bool :=
  decide (scope.kind = .function) && (!scope.isCoroutine && (!scope.isGenerator && (decide (scope.names.lookup a = some .cell) && scope.names.all fun y => !decide (y.2 = .local) && ((!decide (y.2 = .cell) || decide (y.1 = a)) && (!decide (y.2 = .free) || (decide (sc.names.lookup y.1 = some .cell) || decide (sc.names.lookup y.1 = some .free)))))))
theorem lamC_by {sc scope : Scope} {a : Str} (h : lamCB sc scope a = true) (h1 : ∀ n acc, cellsFrom n scope.names acc = (a, n) :: acc) (h2 : ∀ h, pushCells h scope.names = h.push { cls := .type "cell", data := .cell none }) : LamC sc scope a := by
  unfold lamCB at h
  simp only [Bool.and_eq_true, Bool.or_eq_true, Bool.not_eq_true', decide_eq_true_eq, decide_eq_false_iff_not, List.all_eq_true] at h
  obtain ⟨k1, k2, k3, k4, k5⟩ := h
  refine ⟨k1, k2, k3, k4, fun y hy e => ?_, fun y hy => (k5 y hy).1, h1, h2, fun y hy e => ?_⟩
  · rcases (k5 y hy).2.1 with z | z
    · exact absurd e z
    · exact z
  · rcases (k5 y hy).2.2 with z | z
    · exact absurd e z
    · exact z
theorem LamC.has {X : Cx} {scope : Scope} {a : Str} (L : LamC X.env.scope scope a) (ok : X.Ok) : ∀ y ∈ scope.names, y.2 = .free → ∃ c, X.env.cells.lookup y.1 = some c := fun y hy e => by
  rcases L.free y hy e with k | k
  · exact ok.has _ (.inl k)
  · exact ok.has _ (.inr k)
abbrev lamEnvC (X : Cx) (a : Str) (scope : Scope) (L f c' : Addr) : Env := PySem.W.envX (X.env.qual ++ "<lambda>") scope L f (.ref c') ((a, L + 1) :: cloFrom X.env.cells scope.names [])
def lamCxC (X : Cx) (a : Str) (A : Around) (outer : List Env) (s : Shared) (H : Hp) (scope : Scope) (f c' : Addr) : Cx where
  prog := X.prog
  w := X.w
  K := X.K
  mg := X.mg
  base := X.base
  A := A.deeper (lamEnvC X a scope s.heap.objs.size f c')
  N := a :: X.N
  s_0 := s
  H_0 := H
  env := lamEnvC X a scope s.heap.objs.size f c'
  outer := outer
  stack := lamEnvC X a scope s.heap.objs.size f c' :: outer
  ex := []
  fn := fun _ => false
  calm := true
  pn := []
  xe := fun _ _ => False
section
variable {X : Cx} {pins : List (Addr × Obj)} {σ : L2.St} {H : Hp} {s : Shared}
theorem lam_startC {A : Around} {outer : List Env} {scope : Scope} {a : Str} {v : V} {u : Value} {f c' : Addr} {h₁ : Heap} (I : Inv X pins σ H s) (L : LamC X.env.scope scope a) (e0 : Env0 X.prog X.w X.K X.mg X.base A outer s H) (hd : A.handled = none) (ha : a ∉ X.N) (r : RelV v u)
    (hns : h₁.Ns s.heap.objs.size fun _ => none) (hcl : h₁.IsCell (s.heap.objs.size + 1) (some u)) (kp : ∀ b o, s.heap.get? b = some o → h₁.get? b = some o) :
    Inv (lamCxC X a A outer s H scope f c') [] (some v :: σ) H { s with heap := h₁ } := by
  have hfree := L.has I.ok
  have cm : ∀ {y c}, (cloFrom X.env.cells scope.names []).lookup y = some c → X.env.cells.lookup y = some c := fun {y c} e => by
    rcases cloFrom_mem (PySem.mem_of_lookup e) with hm | ⟨h1, h2⟩
    · cases hm
    · obtain ⟨c1, hc⟩ := hfree _ h1 rfl
      have hc : X.env.cells.lookup y = some c1 := hc
      have e2 : c = c1 := by
        rw [h2, hc] <;> rfl
      rw [e2]
      exact hc
  have look : ∀ {y}, scope.names.lookup y = some .free → ∃ c, (cloFrom X.env.cells scope.names []).lookup y = some c := fun {y} hl => by
    have hy : (y, NameKind.free) ∈ scope.names := PySem.mem_of_lookup hl
    exact mem_lookup (cloFrom_has (cells := X.env.cells) (acc := []) hy)
  have cellK : ∀ {c : Addr} {v : Option Value}, H c = none → s.heap.IsCell c v → h₁.IsCell c v := fun {c v} n ⟨o, ho, hd⟩ => ⟨_, kp _ _ ho, hd⟩
  have noA : ∀ b : Addr, b ∉ (lamCxC X a A outer s H scope f c').ex := fun b z => absurd (show b ∈ ([] : List Addr) from z) (by simp)
  -- a cell of the lambda: its own, or one captured
  have cs : ∀ {y c}, ((a, s.heap.objs.size + 1) :: cloFrom X.env.cells scope.names []).lookup y = some c → (y = a ∧ c = s.heap.objs.size + 1) ∨ (X.env.cells.lookup y = some c ∧ c < s.heap.objs.size) := fun {y c} e => by
    rw [List.lookup_cons] at e
    split at e
    · rename_i hb
      cases e
      exact .inl ⟨eq_of_beq hb, rfl⟩
    · have e2 := cm e
      obtain ⟨v, hv⟩ := I.cell y c e2
      exact .inr ⟨e2, hv.lt⟩
  have fnd : ∀ {y}, scope.names.lookup y = some .free → ∃ c, ((a, s.heap.objs.size + 1) :: cloFrom X.env.cells scope.names []).lookup y = some c ∧ X.env.cells.lookup y = some c := fun {y} hl => by
    obtain ⟨c, hc⟩ := look hl
    refine ⟨c, ?_, cm hc⟩
    rw [List.lookup_cons]
    split
    · rename_i hb
      have := eq_of_beq hb
      subst this
      rw [L.par] at hl
      cases hl
    · exact hc
  refine ⟨⟨e0.mod, L.kind, rfl, rfl, Nat.le_refl _, fun y z c e1 e2 => ?_, fun y hy => ?_, fun y c z _ => ?_, fun _ => hd, Around.frames_deeper e0.frames, .inr ⟨rfl, rfl⟩, fun b z => absurd z (noA b), e0.bs, e0.bsz, fun b _ _ => noA b,
      fun b z => absurd z (noA b), e0.funs, e0.frf⟩,
    rfl, e0.bare, Un.kept kp, ⟨_, hns, fun i y v' e1 e2 e3 => ?_⟩, fun y c e => ?_, e0.hok.fresh (Nat.le_refl _), fun y c e => ?_, fun q hq => absurd (show q ∈ ([] : List (Addr × Obj)) ++ [] from hq) (by simp), e0.hok.kept kp, ?_⟩
  · rcases cs e1 with ⟨h1, h2⟩ | ⟨h1, h2⟩
    · rcases cs e2 with ⟨h3, h4⟩ | ⟨h3, h4⟩
      · rw [h1, h3]
      · omega
    · rcases cs e2 with ⟨h3, h4⟩ | ⟨h3, h4⟩
      · omega
      · exact I.ok.inj y z c h1 h3
  · have hy : scope.names.lookup y = some .cell ∨ scope.names.lookup y = some .free := hy
    rcases hy with hy | hy
    · have := L.own _ (PySem.mem_of_lookup hy) rfl
      have e : y = a := this
      subst e
      exact ⟨s.heap.objs.size + 1, by show List.lookup y ((y, s.heap.objs.size + 1) :: _) = _; simp⟩
    · obtain ⟨c, hc, _⟩ := fnd hy
      exact ⟨c, hc⟩
  · have z : false = true := z
    cases z
  · have e3 : Vis scope y := e3
    cases i with
    | zero =>
      have e1 : some a = some y := e1
      have e2 : some (some v) = some (some v') := e2
      cases e1
      cases e2
      exact ⟨u, r, .inr ⟨.inl L.par, s.heap.objs.size + 1, by show List.lookup a ((a, s.heap.objs.size + 1) :: _) = _; simp, hcl⟩⟩
    | succ i =>
      have e1 : X.N[i]? = some y := e1
      have e2 : σ[i]? = some (some v') := e2
      rcases e3 with k | k | k
      · exact absurd rfl (L.noloc _ (PySem.mem_of_lookup k))
      · exact absurd (by rw [← L.own _ (PySem.mem_of_lookup k) rfl]; exact List.mem_of_getElem? e1) ha
      · obtain ⟨m, hn, hl⟩ := I.loc
        have hvis : Vis X.env.scope y := (L.free _ (PySem.mem_of_lookup k) rfl).elim (fun k => .inr (.inl k)) (fun k => .inr (.inr k))
        obtain ⟨w', r, q⟩ := hl i y v' e1 e2 hvis
        obtain ⟨c2, h2, c1⟩ := fnd k
        refine ⟨w', r, .inr ⟨.inr k, c2, h2, ?_⟩⟩
        rcases q with ⟨k', _⟩ | ⟨_, c3, e', z⟩
        · have k' : X.env.scope.names.lookup y = some .local := k'
          rcases L.free _ (PySem.mem_of_lookup k) rfl with k2 | k2 <;> rw [show X.env.scope.names.lookup y = _ from k2] at k' <;> cases k'
        · rw [c1] at e'
          cases e'
          exact cellK (I.freeC y _ c1) z
  · rcases cs e with ⟨h1, h2⟩ | ⟨h1, h2⟩
    · rw [h2]
      exact ⟨_, hcl⟩
    · obtain ⟨w', z⟩ := I.cell y c h1
      exact ⟨w', cellK (I.freeC y c h1) z⟩
  · rcases cs e with ⟨h1, h2⟩ | ⟨h1, h2⟩
    · rw [h2]
      exact e0.hok.fresh (Nat.le_succ _)
    · exact I.freeC y c h1
  · show (some v :: σ).length = (a :: X.N).length
    rw [List.length_cons, List.length_cons, I.len]
theorem call_keyC {k : Nat} {params : Arguments} {body : Expr} {scope : Scope} {a : Str} {f c' : Addr} {v : V} {u : Value} {t : TE} {Q : VK} (I : Inv X pins σ H s) (L : LamC X.env.scope scope a) (ha : a ∉ X.N) (hf : H f = some (LamO X params body scope c' f)) (hc : H c' = some (LamX.CodeO c' (X.env.qual ++ "<lambda>")))
    (hbind : ∀ (q : Str) (cl : List (Str × Addr)) (pm cv ctv u : Value), bindArgs (PySem.W.kla_fn "<lambda>" q params body scope cl pm cv ctv) ⟨[u], []⟩ = pure [(a, u)])
    (hr : RG (k + 3) X.A) (hbody : ∀ (A : Around) (outer : List Env) (s : Shared) (H : Hp), RG k (A.deeper (lamEnvC X a scope s.heap.objs.size f c')) → PE (lamCxC X a A outer s H scope f c') body t)
    (r : RelV v u) (ht : t (some v :: σ) H Q) :
    wpAny (model X.prog X.w) X.A.in1.in1 (call (.ref f) [u]) (EP X pins σ Q) (fun _ _ => False) s := by
  obtain ⟨⟨pm, ctv, of1⟩, _, _⟩ := I.hok f _ hf
  obtain ⟨⟨oc, vs, tt, hoc, hdc, hvc⟩, _, _⟩ := I.hok c' _ hc
  have hr1 : RG (k + 1) X.A.in1.in1 := ⟨hr.room.in1.in1, hr.gd⟩
  have e0 : Env0 X.prog X.w X.K X.mg X.base X.A.in1.in1 X.stack s H := ⟨I.ok.frames, I.ok.mod, I.bs, Nat.le_trans I.ok.bsz I.sz, I.stack, I.stkFree, I.hok, I.bare⟩
  have rc : codeAny (model X.prog X.w) X.A.in1.in1 (.call (.ref f) ⟨[u], []⟩) (CR CX0 X.stack X.prog X.w H s Q E0) s := by
    refine PySem.W.kla_callFunE hr1.room.depth of1 rfl L.co L.gen rfl ⟨c', oc, vs, tt, rfl, hoc, hdc, hvc⟩ ?_
    rw [hbind]
    refine wpAny_pure (wpAny_newEnv_one L.kind L.par L.one L.push fun h₁ kp hns hcl => ⟨I.nolimit.keeps kp, ?_⟩)
    show codeAny _ _ (.expr body (lamEnvC X a scope s.heap.objs.size f c')) _ _
    have J := lam_startC (f := f) (c' := c') I L e0 hr1.room.hd ha r hns hcl kp
    have hr2 : RG k (X.A.in1.in1.deeper (lamEnvC X a scope s.heap.objs.size f c')) := ⟨hr1.room.deeper _, hr1.gd⟩
    refine PySem.W.kla_codeExpr (wpAny_mono ((hbody X.A.in1.in1 X.stack s H hr2).run [] _ _ H Q J ht) (fun v s' hq => ?_) fun e s' hq => (show False from hq).elim)
    obtain ⟨w', H', J', rv, q⟩ := hq
    exact ⟨w', H', J'.os, J'.bare, J'.base, J'.hok, rv, q⟩
  refine wpAny_call (codeAny_mono rc fun r s' hq => ?_)
  cases r with
  | error e => exact hq.elim
  | ok fl =>
    cases fl with
    | ret u => exact I.after hq
    | next => exact False.elim hq
    | brk => exact False.elim hq
    | cont => exact False.elim hq
theorem pe_lamC {c P : Addr} {params : Arguments} {body : Expr} {scope : Scope} {a : Str} {pos : Pos} (TB : GxR.TabB X.base X.mg c P) (hcode : X.env.code = .ref c) (L : LamC X.env.scope scope a) (hdef : defaultsOf params X.env = ([], [])) :
    PE X (.Lambda params body scope pos) (tLamK X P params body scope) :=
  ⟨fun pins s σ H Q I h => lam_make3 I TB hcode h.1 hdef (L.has I.ok) fun f c' H1 s' I1 sx lt hf hc => ⟨.ref f, H1, I1, rfl, h.2 f c' H1 sx lt hf hc⟩⟩
theorem pe_sortKeyC {k : Nat} {c P : Addr} {e : Expr} {params : Arguments} {body : Expr} {scope : Scope} {a : Str} {p pos lp kp : Pos} {t te : TE} (hr : RG (k + 3) X.A) (hg : Gl X "sorted") (hm : X.mg "sorted" = none) (TB : GxR.TabB X.base X.mg c P) (hcode : X.env.code = .ref c)
    (L : LamC X.env.scope scope a) (ha : a ∉ X.N) (hdef : defaultsOf params X.env = ([], []))
    (hbind : ∀ (q : Str) (cl : List (Str × Addr)) (pm cv ctv u : Value), bindArgs (PySem.W.kla_fn "<lambda>" q params body scope cl pm cv ctv) ⟨[u], []⟩ = pure [(a, u)])
    (he : PE X e te) (hbody : ∀ (A : Around) (outer : List Env) (s : Shared) (H : Hp) (f c' : Addr), RG k (A.deeper (lamEnvC X a scope s.heap.objs.size f c')) → PE (lamCxC X a A outer s H scope f c') body t)
    (hs1 : starEach [e] X.env = (false, eval e X.env) :: starEach [] X.env := by rfl) :
    PE X (.Call (.Name "sorted" p) [e] [⟨some "key", .Lambda params body scope lp, kp⟩] pos) (tSortKey X P t te) := by
  refine ⟨fun pins s σ H Q I h => ?_⟩
  refine wpAny_Call_Name_kw (ld_blt I hg hm PyProof.Rows.boot_sorted ?_ (by decide) (by decide))
  have hargs : PA X [e] _ := pa_cons he pa_nil (hs := hs1)
  have hk : PK X [⟨some "key", .Lambda params body scope lp, kp⟩] _ := pk_cons (pe_lamC (P := P) TB hcode L hdef) pk_nil
  refine PyProof.Rows.callWith_kw (thn (hargs.run pos pins s σ H (sortQs X P t σ Q) I h) fun us s1 ⟨vs0, H1, I1, r1, q1⟩ => ?_) (by rw [hs1]; rfl) (by rw [hs1]; rfl) (by rfl) (by rfl)
  obtain ⟨v, rfl⟩ : ∃ v, vs0 = [v] := by
    match vs0, q1 with
    | [v], _ => exact ⟨v, rfl⟩
    | [], q => exact False.elim q
    | _ :: _ :: _, q => exact False.elim q
  obtain ⟨l, bs, rfl, hS, hal, hsk, hdp, lt1, ht, hq⟩ := q1
  obtain ⟨u, rfl, ru⟩ := vals1 r1
  cases ru
  refine thn (hk.run pos pins s1 σ H1 (fun ws H2 => ∃ f c', ws = [.ref f] ∧ SameX P H1 H2 ∧ LT H2 P (X.env.qual ++ "<lambda>") ∧ H2 f = some (LamO X params body scope c' f) ∧ H2 c' = some (LamX.CodeO c' (X.env.qual ++ "<lambda>"))) I1 ?_) fun ws s2 ⟨zs, H2, I2, r2, q2⟩ => ?_
  · exact ⟨lt1, fun f c' H2 sx lt hf hc => ⟨f, c', rfl, sx, lt, hf, hc⟩⟩
  obtain ⟨f, c', rfl, sx, lt2, hf, hc⟩ := q2
  obtain ⟨u, rfl, ru⟩ := vals1 r2
  cases ru
  have hS2 : SqL X.K H2 l (bs.map (·.1)) := seqX lt1 sx hS
  show wpAny _ _ (call (.builtin "sorted") [.ref l] [(Str.ofString "key", .ref f)]) _ _ s2
  refine sorted_keyI I2 hS2 hal hsk (fun p hp => ?_) (fun i x u k' pins' H3 s3 hx rel I3 sm => ?_) fun bs' p H3 s3 pm pw I3 sm n3 => ?_
  · have h1 := hr.room.un
    have h2 := hdp p hp
    show X.A.units + 1 + 1 + p.2.depth < cLine
    omega
  · exact call_keyC (k := k) I3 L ha (sm _ _ hf) (sm _ _ hc) hbind hr (fun A outer s H hr' => hbody A outer s H f c' hr') rel (ht i x k' H3 hx (sx.trans sm.x) (sm.lt lt2))
  · exact ⟨.ref p, _, I3, rfl, hq bs' p H3 _ pm pw (sx.trans sm.x) (sm.lt lt2) n3 (same_new n3) upd_same⟩
end
end Cl

set_option maxHeartbeats 0
/-! a lambda that captures nothing, handed on as a value and called by a name that holds it -/
namespace Cl
open PySem PySem.Spec PyProof.Rows L2
/-- the object of a lambda that captures nothing -/
def FnV (qual : Str) (params : Arguments) (body : Expr) (scope : Scope) (c' f : Addr) : HO := .ext fun h => ∃ pm ctv : Value, h.get? f = some (PySem.W.kla_obj "<lambda>" qual params body scope [] pm c' ctv)
theorem clo_nil {cells : List (Str × Addr)} : ∀ {names : List (Str × NameKind)} {acc : List (Str × Addr)}, (∀ y ∈ names, y.2 ≠ .free) → cloFrom cells names acc = acc
  | [], _, _ => rfl
  | (n, k) :: r, acc, h => by
    unfold cloFrom
    rw [if_neg (by intro z; exact h (n, k) List.mem_cons_self (eq_of_beq z))]
    exact clo_nil fun y hy => h y (List.mem_cons_of_mem _ hy)
theorem lamO_fnV {X : Cx} {params : Arguments} {body : Expr} {scope : Scope} {c' f : Addr} (h : ∀ y ∈ scope.names, y.2 ≠ .free) : LamO X params body scope c' f = FnV (X.env.qual ++ "<lambda>") params body scope c' f := by
  unfold LamO FnV
  rw [clo_nil h]
/-- what calls of such a lambda promise -/
structure CL (P : Program) (w : World) (K : PySem.W.Frag) (mg : Str → Option Value) (base : Heap) (k : Nat) (ps : List Str) (sp : Sp) (qual : Str) (params : Arguments) (body : Expr) (scope : Scope) : Prop where
  len : ∀ vs H Q E, sp vs H Q E → vs.length = ps.length
  run : ∀ (A : Around) (outer : List Env) (s : Shared) (H : Hp) (f c' : Addr) (us : List Value) (vs : List V) (Q : VK), RG k A → Env0 P w K mg base A outer s H → H f = some (FnV qual params body scope c' f) → H c' = some (LamX.CodeO c' qual) →
    Vals vs us → sp vs H Q E0 → codeAny (model P w) A (.call (.ref f) ⟨us, []⟩) (CR CX0 outer P w H s Q E0) s
theorem cl_of {P : Program} {w : World} {K : PySem.W.Frag} {mg : Str → Option Value} {base : Heap} {k : Nat} {N ps : List Str} {sp : Sp} {qual : Str} {params : Arguments} {body : Expr} {scope : Scope} (S : FnScope N ps scope)
    (hb : ∀ (pm cv ctv : Value) (us : List Value), us.length = ps.length → bindArgs (PySem.W.kla_fn "<lambda>" qual params body scope [] pm cv ctv) ⟨us, []⟩ = pure (ps.zip us))
    (len : ∀ vs H Q E, sp vs H Q E → vs.length = ps.length)
    (hbody : ∀ (cdv : Value) (A : Around) (outer : List Env) (s : Shared) (H : Hp) (f : Addr) (vs : List V) (Q : VK), RG k (A.deeper (envOfC qual scope s.heap.objs.size f cdv)) → sp vs H Q E0 →
      ∃ t, PE (cxOf CX0 P w K mg base N qual scope f cdv A outer s H E0).nox body t ∧ t (start N vs) H Q) :
    CL P w K mg base (k + 1) ps sp qual params body scope := by
  refine ⟨len, fun A outer s H f c' us vs Q hr e0 hf hc r hsp => ?_⟩
  have nvs := len _ _ _ _ hsp
  obtain ⟨⟨pm, ctv, of1⟩, _, _⟩ := e0.hok f _ hf
  obtain ⟨⟨oc, zs, tt, hoc, hdc, hvc⟩, _, _⟩ := e0.hok c' _ hc
  have keepB : ∀ b o, base.get? b = some o → s.heap.get? b = some o := fun b o z => (e0.bs b o z).1
  have nolim : s.heap.NoLimit := e0.mod.nolimit.keeps keepB
  have kinds : ∀ y ∈ ps.zip us, scope.names.lookup y.1 = some .local ∨ (scope.names.lookup y.1 = some .cell ∧ ((cellsFrom (s.heap.objs.size + 1) scope.names []).lookup y.1).isSome = true) := by
    rintro ⟨n, v⟩ hy
    rcases S.par n (List.of_mem_zip hy).1 with z | z
    · exact .inl z
    · exact .inr ⟨z, PySem.W.cellsFrom_some _ _ _ (.inl z)⟩
  refine PySem.W.kla_callFunE hr.room.depth of1 rfl S.co S.gen rfl ⟨c', oc, zs, tt, rfl, hoc, hdc, hvc⟩ ?_
  rw [hb pm (.ref c') ctv us (by rw [← r.length]; exact nvs)]
  refine wpAny_pure (wpAny_newFunctionEnv_cells S.kind kinds fun env he s1 x => ?_)
  subst he
  refine ⟨nolim.keeps x.toInCall.keep, ?_⟩
  have hr2 : RG k (A.deeper (envOfC qual scope s.heap.objs.size f (.ref c'))) := ⟨hr.room.deeper _, hr.gd⟩
  obtain ⟨t, ht, hq⟩ := hbody (.ref c') A outer s H f vs Q hr2 hsp
  have I : Inv (cxOf CX0 P w K mg base N qual scope f (.ref c') A outer s H E0) [] (start N vs) H s1 := inv_start S hr.room.hd e0 nvs r x
  show codeAny _ _ (.expr body (envOfC qual scope s.heap.objs.size f (.ref c'))) _ _
  refine PySem.W.kla_codeExpr (wpAny_mono (ht.nox.run [] s1 (start N vs) H _ I hq) (fun v s' hq => ?_) fun e s' z => ?_)
  · obtain ⟨w', H', J', rv, q⟩ := hq
    exact ⟨w', H', J'.os, J'.bare, J'.base, J'.hok, rv, q⟩
  · exact z
/-- g(..), g a name that holds such a lambda -/
def tCallV (qual : Str) (params : Arguments) (body : Expr) (scope : Scope) (sp : Sp) (i : Nat) (t : TA) : TE := fun σ H Q => ∃ f c', σ[i]? = some (some (.ref f)) ∧ H f = some (FnV qual params body scope c' f) ∧
  t σ H fun vs H1 => H1 f = some (FnV qual params body scope c' f) ∧ H1 c' = some (LamX.CodeO c' qual) ∧ sp vs H1 Q E0
section
variable {X : Cx} {P : Program} {w : World} {K : PySem.W.Frag} {mg : Str → Option Value} {base : Heap} {k i : Nat} {ps : List Str} {sp : Sp} {qual : Str} {params : Arguments} {body : Expr} {scope : Scope} {x : Str} {e : Expr} {es : List Expr} {t : TA} {p pos : Pos}
theorem fnAtV {pins : List (Addr × Obj)} {σ : L2.St} {H : Hp} {s : Shared} {f c' : Addr} (I : Inv X pins σ H s) (e : H f = some (FnV qual params body scope c' f)) : PySem.W.FnAt f s.heap := by
  obtain ⟨⟨pm, ctv, of1⟩, _, _⟩ := I.hok f _ e
  exact ⟨_, _, _, _, of1⟩
theorem pe_callV (C : CL X.prog X.w X.K X.mg X.base k ps sp qual params body scope) (hr : RG k X.A) (hN : X.N[i]? = some x) (hv : Vis X.env.scope x) (ha : PA X (e :: es) t)
    (hd : (x == ("__debug__" : Str)) = false := by decide) (hcd : (x == ("__classdict__" : Str)) = false := by decide)
    (he : starEach (e :: es) X.env = (false, eval e X.env) :: starEach es X.env := by rfl) (hpl : (backTo pos (starEach es X.env)).any (·.1) = false := by rfl) :
    PE X (.Call (.Name x p) (e :: es) [] pos) (tCallV qual params body scope sp i t) := by
  refine ⟨fun pins s σ H Q I h => ?_⟩
  obtain ⟨f, c', hs, hf, ht⟩ := h
  refine wpAny_Call_Name_kw (thn ((pe_var (pos := p) hN hv hd hcd).run pins s σ H (fun v H1 => v = .ref f ∧ H1 = H) I ⟨.ref f, hs, rfl, rfl⟩) fun u s1 ⟨v, H1, I1, r1, q1⟩ => ?_)
  obtain ⟨ev, eH⟩ := q1
  subst ev
  rw [eH] at I1
  obtain rfl : u = Value.ref f := r1
  refine PySem.W.callWith_F (first := []) (fnAtV I1 hf) (thn (ha.run pos pins s1 σ H _ I1 ht) fun us s2 ⟨vs, H2, I2, r, h1, h2, q⟩ => ⟨fnAtV I2 h1, ?_⟩) he hpl
  show wpAny _ _ (call (.ref f) us) _ _ _
  refine wpAny_call (codeAny_mono (C.run X.A X.stack s2 H2 f c' us vs Q hr I2.env0 h1 h2 r q) fun r s' hq => ?_)
  cases r with
  | error e => exact pass0 pins σ H2 s2 e s' I2 hq
  | ok fl =>
    cases fl with
    | ret u => exact I2.after hq
    | next => exact False.elim hq
    | brk => exact False.elim hq
    | cont => exact False.elim hq
end
end Cl

set_option maxHeartbeats 0
/-! tables of lambdas apart from codes and lambdas; several such tables -/
namespace Cl
open PySem PySem.Spec PyProof.Rows L2
theorem ext_ne {φ ψ : Heap → Prop} (h : Heap) (a : φ h) (b : ¬ ψ h) : HO.ext φ ≠ HO.ext ψ := fun e => b (by
  have e2 : φ = ψ := by injection e
  rw [← e2]
  exact a)
/-- a heap with o at each place up to a -/
def allH (a : Addr) (o : Obj) : Heap := { objs := Array.replicate (a + 1) o }
theorem allH_at (a : Addr) (o : Obj) (h : o.data ≠ .freed) : (allH a o).get? a = some o := by
  unfold allH Heap.get?
  simp only
  have : (Array.replicate (a + 1) o)[a]? = some o := by
    rw [Array.getElem?_eq_getElem (by simp)]
    simp
  rw [this]
  cases o with
  | mk cl di da sl =>
    cases da with
    | freed => exact absurd rfl h
    | _ => rfl
theorem tabAt_ne_code {P c : Addr} {cs : List Addr} {q : Str} : LamX.CodeO c q ≠ TabAt c cs := by
  refine ext_ne (allH c { cls := .none, data := .fields #[.none, .str q 0] }) ?_ ?_
  · exact ⟨_, _, 0, allH_at c _ (by intro z; cases z), rfl, rfl⟩
  · rintro ⟨ps, e, t, _⟩
    rw [allH_at c _ (by intro z; cases z)] at e
    cases e
    exact t
theorem tabAt_ne_fn {f c' : Addr} {cs : List Addr} {qual : Str} {params : Arguments} {body : Expr} {scope : Scope} : FnV qual params body scope c' f ≠ TabAt f cs := by
  refine ext_ne (allH f (PySem.W.kla_obj "<lambda>" qual params body scope [] .none c' .none)) ?_ ?_
  · exact ⟨_, _, allH_at f _ (by intro z; cases z)⟩
  · rintro ⟨ps, e, t, _⟩
    rw [allH_at f _ (by intro z; cases z)] at e
    cases e
section
variable {H H' : Hp} {P P' : Addr} {q q' : Str}
theorem LT.ne_code (t : LT H P q) {c : Addr} (e : H c = some (LamX.CodeO c q')) : c ≠ P := fun z => by
  obtain ⟨cs, e2, _⟩ := t
  subst z
  rw [e2] at e
  exact tabAt_ne_code (P := c) (Option.some.inj e).symm
theorem LT.ne_fn (t : LT H P q) {f c' : Addr} {qual : Str} {params : Arguments} {body : Expr} {scope : Scope} (e : H f = some (FnV qual params body scope c' f)) : f ≠ P := fun z => by
  obtain ⟨cs, e2, _⟩ := t
  subst z
  rw [e2] at e
  exact tabAt_ne_fn (Option.some.inj e).symm
theorem SameX.code {c : Addr} (s : SameX P H H') (t : LT H P q) (e : H c = some (LamX.CodeO c q')) : H' c = some (LamX.CodeO c q') := s c _ (t.ne_code e) e
theorem SameX.fnV {f c' : Addr} {qual : Str} {params : Arguments} {body : Expr} {scope : Scope} (s : SameX P H H') (t : LT H P q) (e : H f = some (FnV qual params body scope c' f)) : H' f = some (FnV qual params body scope c' f) := s f _ (t.ne_fn e) e
/-- another table of lambdas -/
theorem LT.other (s : SameX P H H') (t : LT H P q) (n : P' ≠ P) (t' : LT H P' q') : LT H' P' q' := by
  obtain ⟨cs, h1, h2⟩ := id t'
  exact ⟨cs, s _ _ n h1, fun c hc => ⟨(h2 c hc).1, s.code t (h2 c hc).2⟩⟩
/-- all but the tables at P and at P' stays -/
def SameY (P P' : Addr) (H H' : Hp) : Prop := ∀ b o, b ≠ P → b ≠ P' → H b = some o → Keep (H' b) o
theorem SameY.trans {H1 H2 : Hp} (a : SameY P P' H H1) (b : SameY P P' H1 H2) : SameY P P' H H2 := fun c o n n' h => by
  have k := a c o n n' h
  cases o with
  | tbl ps => exact fun t => let ⟨ps1, e1, t1⟩ := k t; b c (.tbl ps1) n n' e1 t1
  | _ => exact b c _ n n' k
theorem SameX.y1 (a : SameX P H H') : SameY P P' H H' := fun b o n _ e => a b o n e
theorem SameX.y2 (a : SameX P' H H') : SameY P P' H H' := fun b o _ n e => a b o n e
theorem Same.y (a : Same H H') : SameY P P' H H' := fun b o _ _ e => a b o e
theorem SameY.refl (H : Hp) : SameY P P' H H := fun _ _ _ _ e => .of e
def hp2 (P P' : Addr) (H : Hp) : Hp := hp P (hp P' H)
theorem SameY.to (s : SameY P P' H H') : Same (hp2 P P' H) H' := fun b o e => by
  obtain ⟨n, e1⟩ := hp_at e
  obtain ⟨n', e2⟩ := hp_at e1
  exact s b o n n' e2
theorem LT.hp (n : P ≠ P') (t' : LT H P' q') (t : LT H P q) : LT (hp P' H) P q := by
  obtain ⟨cs, h1, h2⟩ := id t
  exact ⟨cs, hp_of n h1, fun c hc => ⟨(h2 c hc).1, hp_of (t'.ne_code (h2 c hc).2) (h2 c hc).2⟩⟩
variable {K : PySem.W.Frag}
theorem dnT2 {a : Addr} {xs : List V} (n : P ≠ P') (t : LT H P q) (t' : LT H P' q') (h : SqT K H a xs) : SqT K (hp2 P P' H) a xs := dnT (LT.hp n t' t) (dnT t' h)
theorem seY {a : Addr} {xs : List V} (n : P ≠ P') (t : LT H P q) (t' : LT H P' q') (s : SameY P P' H H') (h : SqT K H a xs) : SqT K H' a xs := seT s.to (dnT2 n t t' h)
theorem At2.sameX {v : V} {p : Int × Int} (h : At2 K H v p) (t : LT H P q) (s : SameX P H H') : At2 K H' v p := (dn2 t h).same s.to
theorem At2.sameY {v : V} {p : Int × Int} (n : P ≠ P') (h : At2 K H v p) (t : LT H P q) (t' : LT H P' q') (s : SameY P P' H H') : At2 K H' v p := by
  obtain ⟨a, rfl, h⟩ := h
  exact ⟨a, rfl, seY n t t' s h⟩
theorem AtL.sameY {v : V} {l : Ln} (n : P ≠ P') (h : AtL K H v l) (t : LT H P q) (t' : LT H P' q') (s : SameY P P' H H') : AtL K H' v l := by
  obtain ⟨a, u, w, rfl, h1, h2, h3⟩ := h
  exact ⟨a, u, w, rfl, seY n t t' s h1, h2.sameY n t t' s, h3.sameY n t t' s⟩
theorem At3.sameX {v : V} {p : S3} (h : At3 K H v p) (t : LT H P q) (s : SameX P H H') : At3 K H' v p := by
  obtain ⟨a, rfl, h⟩ := h
  exact ⟨a, rfl, seX t s h⟩
theorem At3.sameY {v : V} {p : S3} (n : P ≠ P') (h : At3 K H v p) (t : LT H P q) (t' : LT H P' q') (s : SameY P P' H H') : At3 K H' v p := by
  obtain ⟨a, rfl, h⟩ := h
  exact ⟨a, rfl, seY n t t' s h⟩
end
end Cl

set_option maxHeartbeats 0
namespace Cl
open PySem PySem.Spec PyProof.Rows L2
open GxR (TabB TabG)

/-- a dict whose keys are spots -/
def DK (H : Hp) (d : Addr) (ss : List Pt) : Prop := ∃ kvs : List (List Key × V), H d = some (.dT kvs) ∧ kvs.map (·.1) = (ss.map key2).map flatKey ∧ ss.Nodup
def addS (ss : List Pt) (t : Pt) : List Pt := if t ∈ ss then ss else ss ++ [t]
theorem mem_addS {ss : List Pt} {t s : Pt} : s ∈ addS ss t ↔ s ∈ ss ∨ s = t := by
  unfold addS
  split
  · rename_i h
    exact ⟨.inl, fun z => z.elim id fun e => by rw [e]; exact h⟩
  · rw [List.mem_append, List.mem_singleton]
theorem len_addS (ss : List Pt) (t : Pt) : (addS ss t).length ≤ ss.length + 1 := by
  unfold addS
  split
  · omega
  · rw [List.length_append]; exact Nat.le_refl _
theorem nodup_addS {ss : List Pt} {t : Pt} (h : ss.Nodup) : (addS ss t).Nodup := by
  unfold addS
  split
  · exact h
  · rename_i n
    exact List.nodup_append.mpr ⟨h, List.pairwise_singleton _ _, fun a ha b hb e => n (by rw [List.mem_singleton.mp hb] at e; rw [← e]; exact ha)⟩
theorem flat_inj {s t : Pt} (h : flatKey (key2 s) = flatKey (key2 t)) : s = t := by
  obtain ⟨a, b⟩ := s
  obtain ⟨a', b'⟩ := t
  unfold flatKey key2 at h
  simp at h
  obtain ⟨h1, h2⟩ := h
  rw [h1, h2]
theorem keys_put (kvs : List (List Key × V)) (k : List Key) (v : V) : (k ∈ kvs.map (·.1) ∧ (putK kvs k v).map (·.1) = kvs.map (·.1)) ∨ (k ∉ kvs.map (·.1) ∧ (putK kvs k v).map (·.1) = kvs.map (·.1) ++ [k]) := by
  unfold putK
  by_cases h : k ∈ kvs.map (·.1)
  · obtain ⟨x, hx, e⟩ := List.mem_map.mp h
    refine .inl ⟨h, ?_⟩
    rw [if_pos (List.any_eq_true.mpr ⟨x, hx, by simp [e]⟩), List.map_map]
    refine List.map_congr_left fun y _ => ?_
    show (if y.1 = k then (y.1, v) else y).1 = y.1
    split <;> rfl
  · refine .inr ⟨h, ?_⟩
    rw [if_neg, List.map_append]
    · rfl
    · intro z
      obtain ⟨x, hx, e⟩ := List.any_eq_true.mp z
      exact h (List.mem_map.mpr ⟨x, hx, by simpa using e⟩)
theorem DK.put {H : Hp} {d : Addr} {ss : List Pt} {kvs : List (List Key × V)} {t : Pt} {v : V} (e1 : kvs.map (·.1) = (ss.map key2).map flatKey) (nd : ss.Nodup) : DK (upd H d (.dT (putK kvs (flatKey (key2 t)) v))) d (addS ss t) := by
  refine ⟨_, upd_same, ?_, nodup_addS nd⟩
  unfold addS
  rcases keys_put kvs (flatKey (key2 t)) v with ⟨z, ez⟩ | ⟨z, ez⟩
  · rw [e1] at z ez
    rw [List.map_map] at z
    obtain ⟨p, hp, e⟩ := List.mem_map.mp z
    rw [ez, if_pos (by rw [← flat_inj e]; exact hp)]
  · rw [e1] at z ez
    rw [List.map_map] at z
    rw [ez, if_neg (fun h => z (List.mem_map.mpr ⟨_, h, rfl⟩)), List.map_append, List.map_append]
    rfl
theorem DK.len {H : Hp} {d : Addr} {ss : List Pt} {kvs : List (List Key × V)} (e : kvs.map (·.1) = (ss.map key2).map flatKey) : kvs.length = ss.length := by
  have := congrArg List.length e
  rwa [List.length_map, List.length_map, List.length_map] at this
theorem updTD {K : PySem.W.Frag} {H : Hp} {M b : Addr} {o : HO} {kvs : List (List Key × V)} {ys : List V} (e : H M = some (.dT kvs)) (h : SqT K H b ys) : SqT K (upd H M o) b ys := by
  rcases h with (h | ⟨oo, h⟩) | h
  · exact .inl (.inl (by rw [upd_ne (ne_of h e (by intro z; cases z))]; exact h))
  · exact .inl (.inr ⟨oo, by rw [upd_ne (ne_of h e (by intro z; cases z))]; exact h⟩)
  · exact .inr h
theorem at2_updD {K : PySem.W.Frag} {H : Hp} {M : Addr} {o : HO} {kvs : List (List Key × V)} {v : V} {s : Pt} (h : At2 K H v s) (e : H M = some (.dT kvs)) : At2 K (upd H M o) v s := by
  obtain ⟨a, rfl, h⟩ := h
  exact ⟨a, rfl, updTD e h⟩
theorem DK.same {H H' : Hp} {d : Addr} {ss : List Pt} (h : DK H d ss) (s : Same H H') : DK H' d ss := by
  obtain ⟨kvs, e, r⟩ := h
  exact ⟨kvs, s _ _ e, r⟩
theorem key2_inj {s t : Pt} (h : key2 s = key2 t) : s = t := by
  have := congrArg unkey2 h
  exact this
theorem nodup_keys : ∀ {ss : List Pt}, ss.Nodup → (ss.map key2).Nodup
  | [], _ => .nil
  | s :: ss, h => by
    obtain ⟨h1, h2⟩ := List.nodup_cons.mp h
    rw [List.map_cons]
    refine List.nodup_cons.mpr ⟨fun z => ?_, nodup_keys h2⟩
    obtain ⟨t, ht, e⟩ := List.mem_map.mp z
    rw [key2_inj e] at ht
    exact h1 ht

theorem leF_pt {a b : Addr} {p q : Pt} (h : SG.leG SG.encF (a, [p.1, p.2]) (b, [q.1, q.2])) : llt q p = false := by
  have e : PySem.W.dataLt (pd q) (pd p) = llt q p := lt_pd q p
  rw [← e]
  unfold SG.leG PySem.W.dataLe PySem.W.sortLe at h
  have h2 : (!PyProof.Rows.lexLt itemOrd (PySem.W.keyToks (pd q)) (PySem.W.keyToks (pd p))) = true := h
  unfold PySem.W.dataLt
  simpa using h2

/-- the corners that the k-th line wants, alone or by a crossing with one ahead -/
def crossC (g : Int) (ss : List S3) : List Pt := match ss with
  | [s] => [crnS g s]
  | _ => []
def cAt (g : Int) (ls : List Ln) (k : Nat) (l : Ln) : List Pt := [crn g l.1, crn g l.2] ++ (ls.take k).flatMap fun r => crossC g (cmn l r)
def dueC (g : Int) (ls : List Ln) (n : Nat) : List Pt := (List.range n).flatMap fun k => (ls[k]?.map (cAt g ls k)).getD []
theorem dueC_succ {g : Int} {ls : List Ln} {k : Nat} {l : Ln} (h : ls[k]? = some l) : dueC g ls (k + 1) = dueC g ls k ++ cAt g ls k l := by
  unfold dueC
  rw [List.range_succ, List.flatMap_append, List.flatMap_singleton, h]
  rfl
theorem mem_crossC {g : Int} {ss : List S3} {p : Pt} : p ∈ crossC g ss ↔ ∃ s, ss = [s] ∧ crnS g s = p := by
  match ss with
  | [] => exact ⟨fun h => (nomatch h), fun ⟨s, h, _⟩ => (nomatch h)⟩
  | [s] =>
    refine ⟨fun h => ⟨s, rfl, (List.mem_singleton.mp h).symm⟩, ?_⟩
    rintro ⟨t, h, e⟩
    cases h
    exact List.mem_singleton.mpr e.symm
  | _ :: _ :: _ => exact ⟨fun h => (nomatch h), fun ⟨s, h, _⟩ => by simp at h⟩
theorem mem_dueC {g : Int} {ls : List Ln} (good : ∀ r ∈ ls, r.1 ≠ r.2) (p : Pt) : p ∈ dueC g ls ls.length ↔ Cn g ls p := by
  unfold dueC Cn
  rw [List.mem_flatMap]
  constructor
  · rintro ⟨k, hk, h⟩
    have hk := List.mem_range.mp hk
    rw [List.getElem?_eq_getElem hk] at h
    have h : p ∈ cAt g ls k ls[k] := h
    unfold cAt at h
    rcases List.mem_append.mp h with h | h
    · refine .inl ⟨ls[k], List.getElem_mem _, ?_⟩
      simp only [List.mem_cons, List.not_mem_nil, or_false] at h
      exact h.imp Eq.symm Eq.symm
    · obtain ⟨r, hr, h2⟩ := List.mem_flatMap.mp h
      obtain ⟨s, e1, e2⟩ := mem_crossC.mp h2
      obtain ⟨j, hj, e3⟩ := List.mem_iff_getElem.mp hr
      rw [List.length_take] at hj
      rw [List.getElem_take] at e3
      refine .inr fun pw => ?_
      have := List.pairwise_iff_getElem.mp pw j k (by omega) hk (by omega)
      rw [e3] at this
      have rm := List.mem_of_mem_take hr
      exact this ⟨good r rm, good _ (List.getElem_mem _), s, by rw [cmn_swap _ _ (good _ (List.getElem_mem _)) (good r rm)]; exact e1, e2⟩
  · rintro (⟨l, hl, h⟩ | h)
    · obtain ⟨k, hk, e⟩ := List.mem_iff_getElem.mp hl
      refine ⟨k, List.mem_range.mpr hk, ?_⟩
      rw [List.getElem?_eq_getElem hk, e]
      refine List.mem_append.mpr (.inl ?_)
      simp only [List.mem_cons, List.not_mem_nil, or_false]
      exact h.imp Eq.symm Eq.symm
    · obtain ⟨j, k, hj, hk, jk, x⟩ : ∃ j k, ∃ (hj : j < ls.length) (hk : k < ls.length), j < k ∧ Xc g p ls[j] ls[k] := Classical.byContradiction fun c => h (List.pairwise_iff_getElem.mpr fun j k hj hk jk x => c ⟨j, k, hj, hk, jk, x⟩)
      obtain ⟨n1, n2, s, e1, e2⟩ := x
      refine ⟨k, List.mem_range.mpr hk, ?_⟩
      rw [List.getElem?_eq_getElem hk]
      refine List.mem_append.mpr (.inr (List.mem_flatMap.mpr ⟨ls[j], ?_, mem_crossC.mpr ⟨s, by rw [cmn_swap _ _ n1 n2]; exact e1, e2⟩⟩))
      rw [List.mem_iff_getElem]
      exact ⟨j, by rw [List.length_take]; omega, List.getElem_take ..⟩
theorem nr_bd {n d B : Int} (hd : 0 < d) (h1 : -(B * d) ≤ n) (h2 : n ≤ B * d) (hB : 0 ≤ B) : -(B + 1) ≤ nr n d ∧ nr n d ≤ B + 1 := by
  obtain ⟨a, b⟩ := nr_lies (n := n) hd
  constructor
  · refine Int.not_lt.mp fun z => ?_
    have : (2 * nr n d + 1) * d ≤ (-(2 * B) - 1) * d := Int.mul_le_mul_of_nonneg_right (by omega) (by omega)
    rw [Int.sub_mul, Int.neg_mul, Int.mul_assoc] at this
    omega
  · refine Int.not_lt.mp fun z => ?_
    have : (2 * B + 1) * d ≤ (2 * nr n d - 1) * d := Int.mul_le_mul_of_nonneg_right (by omega) (by omega)
    rw [Int.add_mul, Int.mul_assoc] at this
    omega
theorem crn_un3 {g : Int} {u : S3} (h : 0 < u.2.2) : crnS g (un3 u) = crnS g u := by
  unfold crnS un3 sp3
  obtain ⟨a, b⟩ := nr_spot (n := u.1) (m := u.2.1) (d := u.2.2) (g := g) h
  exact Prod.ext a b
theorem nr_grain {x g B : Int} (hg : 0 < g) (h1 : -B ≤ x) (h2 : x ≤ B) (hB : 0 ≤ B) : -(B + 1) ≤ nr x g ∧ nr x g ≤ B + 1 := by
  have : B * 1 ≤ B * g := Int.mul_le_mul_of_nonneg_left (by omega) hB
  exact nr_bd hg (by omega) (by omega) hB
theorem crn_bd {g B : Int} {p : Pt} (hg : 0 < g) (hB : 0 ≤ B) (h : BdN B p) : BdN (B + 1) (crn g p) := by
  obtain ⟨⟨a, b⟩, c, d⟩ := h
  exact ⟨nr_grain hg a b hB, nr_grain hg c d hB⟩
theorem mix_bd {M K a b B : Int} (hK : 0 ≤ K) (hM : K ≤ M) (a0 : -B ≤ a) (a1 : a ≤ B) (b0 : -B ≤ b) (b1 : b ≤ B) : -(B * M) ≤ M * a + K * (b - a) ∧ M * a + K * (b - a) ≤ B * M := by
  have e : M * a + K * (b - a) = (M - K) * a + K * b := by grind
  rw [e]
  have k1 := Int.mul_le_mul_of_nonneg_left a1 (show 0 ≤ M - K by omega)
  have k2 := Int.mul_le_mul_of_nonneg_left b1 hK
  have k3 := Int.mul_le_mul_of_nonneg_left a0 (show 0 ≤ M - K by omega)
  have k4 := Int.mul_le_mul_of_nonneg_left b0 hK
  have e2 : B * M = (M - K) * B + K * B := by grind
  rw [e2]
  rw [Int.mul_neg] at k3 k4
  omega
theorem cross_bd {g B : Int} {l r : Ln} {s : S3} (hg : 0 < g) (hB : 0 ≤ B) (hl : BdN B l.1 ∧ BdN B l.2) (hr : BdN B r.1 ∧ BdN B r.2) (h : s ∈ cmn l r) : BdN (B + 1) (crnS g s) := by
  unfold cmn at h
  split at h
  · rename_i h0
    unfold acr at h
    simp only at h
    split at h
    · rename_i hin
      rw [List.mem_singleton.mp h]
      have hp := klm_pos l r h0
      have := crn_un3 (g := g) (u := ((klm l r).2.2 * l.1.1 + (klm l r).1 * (l.2.1 - l.1.1), (klm l r).2.2 * l.1.2 + (klm l r).1 * (l.2.2 - l.1.2), (klm l r).2.2)) hp
      unfold un3 at this
      rw [this]
      obtain ⟨⟨⟨a1, a2⟩, a3, a4⟩, ⟨b1, b2⟩, b3, b4⟩ := hl
      have m1 := mix_bd (M := (klm l r).2.2) hin.1.1 hin.1.2 a1 a2 b1 b2
      have m2 := mix_bd (M := (klm l r).2.2) hin.1.1 hin.1.2 a3 a4 b3 b4
      have gM := Int.mul_le_mul_of_nonneg_left (show 1 ≤ g by omega) (Int.le_of_lt hp)
      have gB := Int.mul_le_mul_of_nonneg_left gM hB
      rw [Int.mul_one] at gB
      have hd := Int.mul_pos hp hg
      exact ⟨nr_bd (d := (klm l r).2.2 * g) hd (by omega) (by omega) hB, nr_bd (n := (klm l r).2.2 * l.1.2 + (klm l r).1 * (l.2.2 - l.1.2)) (d := (klm l r).2.2 * g) hd (by omega) (by omega) hB⟩
    · cases h
  · split at h
    · cases h
    · have one : ∀ p : Pt, BdN B p → BdN (B + 1) (crnS g (p.1, p.2, 1)) := fun p b => by
        have := crn_bd hg hB b
        unfold crnS
        show BdN (B + 1) (nr p.1 (1 * g), nr p.2 (1 * g))
        rw [Int.one_mul]
        exact this
      have hmn : ∀ p q : Pt, BdN B p → BdN B q → BdN B (mn p q) := fun p q a b => by unfold mn; split <;> assumption
      have hmx : ∀ p q : Pt, BdN B p → BdN B q → BdN B (mx p q) := fun p q a b => by unfold mx; split <;> assumption
      have hlo : BdN B (lo l r) := hmx _ _ (hmn _ _ hl.1 hl.2) (hmn _ _ hr.1 hr.2)
      have hhi : BdN B (hi l r) := hmn _ _ (hmx _ _ hl.1 hl.2) (hmx _ _ hr.1 hr.2)
      unfold alo at h
      split at h
      · cases h
      · split at h
        · rw [List.mem_singleton.mp h]; exact one _ hlo
        · simp only [List.mem_cons, List.not_mem_nil, or_false] at h
          rcases h with rfl | rfl
          · exact one _ hlo
          · exact one _ hhi
theorem cn_bd {g : Int} {ls : List Ln} {p : Pt} (hg : 0 < g) (good : ∀ r ∈ ls, GoodLn 2000000 r) (h : Cn g ls p) : BdN 2000001 p := by
  rcases h with ⟨l, hl, h⟩ | h
  · have := good l hl
    rcases h with rfl | rfl
    · exact crn_bd hg (by decide) this.1
    · exact crn_bd hg (by decide) this.2.1
  · obtain ⟨j, k, hj, hk, jk, x⟩ : ∃ j k, ∃ (hj : j < ls.length) (hk : k < ls.length), j < k ∧ Xc g p ls[j] ls[k] := Classical.byContradiction fun c => h (List.pairwise_iff_getElem.mpr fun j k hj hk jk x => c ⟨j, k, hj, hk, jk, x⟩)
    obtain ⟨n1, n2, s, e1, e2⟩ := x
    have g1 := good _ (List.getElem_mem hj)
    have g2 := good _ (List.getElem_mem hk)
    rw [← e2]
    exact cross_bd hg (by decide) ⟨g1.1, g1.2.1⟩ ⟨g2.1, g2.2.1⟩ (by rw [e1]; exact List.mem_cons_self)
/-- the corners of a drawing -/
structure Crs (g : Int) (ls : List Ln) (cs : List Pt) : Prop where
  srt : cs.Pairwise leP
  nd : cs.Nodup
  mem : ∀ p, p ∈ cs ↔ Cn g ls p
theorem Crs.of {g : Int} {ls : List Ln} {cs : List Pt} (good : ∀ r ∈ ls, r.1 ≠ r.2) (h : IsCs (rowsP g ls) cs) : Crs g ls cs := ⟨h.1, h.2.1, fun p => (h.2.2 p).trans (rows_cn good p)⟩
theorem Crs.one {g : Int} {ls : List Ln} {a b : List Pt} (h1 : Crs g ls a) (h2 : Crs g ls b) : a = b :=
  keys_eq h1.srt h2.srt h1.nd h2.nd fun p => by rw [h1.mem, h2.mem]
theorem leC_leP {p q : Pt} (h : leC p q) : leP p q := by
  have h2 := leF_pt (a := 0) (b := 0) h
  unfold leP SrtO.lexB
  unfold llt at h2
  simp only [decide_eq_false_iff_not] at h2
  split
  · rw [decide_eq_false_iff_not]; omega
  · rw [decide_eq_false_iff_not]; omega

end Cl

set_option maxHeartbeats 0
namespace Cl
open PySem PySem.Spec PyProof.Rows L2
open GxR (TabB TabG)

theorem AllAt.atX {α : Type} {R : V → α → Prop} : ∀ {vs : List V} {xs : List α} {i : Nat} {x : α}, AllAt R vs xs → xs[i]? = some x → ∃ v, vs[i]? = some v ∧ R v x
  | _, _, _, _, .nil, e => nomatch e
  | v :: _, _ :: _, 0, _, .cons h _, e => ⟨v, rfl, by rw [← Option.some.inj e]; exact h⟩
  | _ :: _, _ :: _, i + 1, _, .cons _ t, e => AllAt.atX (i := i) t e
def spCornersL (K : PySem.W.Frag) : Sp := fun vs H Q _ => ∃ g v ls, vs = [.int g, v] ∧ Lns K H g v ls ∧ ∀ u H' cs, Same H H' → AtP K H' u cs → Crs g ls cs → Q u H'
def AtSome (K : PySem.W.Frag) (H : Hp) (v : V) (us : List S3) : Prop := ∃ c ws, v = .ref c ∧ H c = some (.lst ws) ∧ AllAt (At3 K H) ws us
theorem AtSome.same {K : PySem.W.Frag} {H H' : Hp} {v : V} {us : List S3} (h : AtSome K H v us) (s : Same H H') : AtSome K H' v us := by
  obtain ⟨c, ws, e, h1, h2⟩ := h
  exact ⟨c, ws, e, s _ _ h1, h2.map fun _ _ z => z.same s⟩
theorem AtSome.updL {K : PySem.W.Frag} {H : Hp} {M : Addr} {xs : List V} {o : HO} {v : V} {us : List S3} (h : AtSome K H v us) (n : v ≠ .ref M) (e : H M = some (.lst xs)) : AtSome K (L2.upd H M o) v us := by
  obtain ⟨c, ws, rfl, h1, h2⟩ := h
  exact ⟨c, ws, rfl, by rw [upd_ne (fun z => n (by rw [z]))]; exact h1, h2.map fun _ _ z => by
    obtain ⟨a, rfl, q⟩ := z
    exact ⟨a, rfl, updT e q⟩⟩
theorem atSome_updD {K : PySem.W.Frag} {H : Hp} {M : Addr} {o : HO} {kvs : List (List Key × V)} {v : V} {us : List S3} (h : AtSome K H v us) (e : H M = some (.dT kvs)) : AtSome K (L2.upd H M o) v us := by
  obtain ⟨c, ws, rfl, h1, h2⟩ := h
  exact ⟨c, ws, rfl, by rw [upd_ne (ne_of h1 e (by intro z; cases z))]; exact h1, h2.map fun _ _ z => by
    obtain ⟨a, rfl, q⟩ := z
    exact ⟨a, rfl, updTD e q⟩⟩

section
variable {P : Program} {w : World} {K : PySem.W.Frag} {mg : Str → Option Value} {base : Heap}

theorem ok_law_corners {f : Addr} {fd : FuncData} (F : Fun K "_law_corners" "_law_corners" s_law_corners f fd) (T : Bt mg) (D_law_nearest : Def P w K mg base 1 "_law_nearest" ["_law_grain_here", "_law_spot"] (spNearN K)) (D_law_common : Def P w K mg base 2 "_law_common" ["_law_one", "_law_other"] (spCmn7 K)) :
    FnG P w K mg base CX0 3 f fd ["_law_grain_here", "_law_lines_here"] (spCornersL K) := by
  refine okG (k := 2) F sc_law_corners (fun vs H Q E h => ?_) (fun cdv A outer s H vs Q E hr h => ?_)
  · obtain ⟨g, v, ls, rfl, _⟩ := h
    rfl
  · obtain ⟨g, v, ls, rfl, hLs, q⟩ := h
    refine ⟨_, (pss_cons (ps_set (i := 2) sc_law_corners.nd rfl (.inl rfl) pe_dnewT)
      (pss_cons (ps_for PassesOwn.never rfl (pi_range1 (by rfl) T.range (pa_cons (pe_callB call_len_seq (by rfl) T.len (by decide +kernel) (pa_cons (pv 1) pa_nil)) pa_nil)) (pg_name (i := 3) sc_law_corners.nd rfl (.inr rfl)) (pss_cons (ps_for PassesOwn.never rfl (pi_tup (pe_ix ix_tup (pv 1) (pv 3) (fun _ _ => rfl))) (pg_tup (by rfl) (pgs_cons (pg_name (i := 4) sc_law_corners.nd rfl (.inl rfl)) (pgs_cons (pg_name (i := 5) sc_law_corners.nd rfl (.inl rfl)) pgs_nil))) (pss_one (ps_dput (Nat.lt_of_le_of_lt (Nat.add_le_add_left (by decide) _) hr.room.units) (pv 2) (callD D_law_nearest (hr.mono (by decide)) (pa_cons (pv 0) (pa_cons (tupN (pa_cons (pv 4) (pa_cons (pv 5) (pa_cons pe_int pa_nil)))) pa_nil))) pe_bl (by rfl))))
      (pss_one (ps_for PassesOwn.never rfl (pi_list (pe_lc (own := [("_law_m", 7)]) (g := gName 7) (tt := tYes) (by rfl) sc_law_corners.nd (pi_range1 (by rfl) T.range (pa_cons (pv 3) pa_nil)) (blkOk_by (own := [("_law_m", 7)]) (N := ["_law_grain_here", "_law_lines_here", "_law_found", "_law_k", "_law_x", "_law_y", "_law_some", "_law_m"]) (sc := defScope s_law_corners) (by decide +kernel)) (fun _ _ _ _ _ => (pg_name (i := 7) sc_law_corners.nd rfl (.inl rfl))) (fun _ _ _ _ _ => pts_nil) (fun _ _ _ _ _ => (callD D_law_common (hr.mono (by decide)) (pa_cons (pe_ix (ix_tupk (K := K) rfl) (pv 1) (pv 3) (fun _ _ => rfl)) (pa_cons (pe_ix (ix_tupk (K := K) rfl) (pv 1) (pv 7) (fun _ _ => rfl)) pa_nil)))))) (pg_name (i := 6) sc_law_corners.nd rfl (.inl rfl)) (pss_one (ps_if (pt_cmpR op_eq (pe_callB call_len_seq (by rfl) T.len (by decide +kernel) (pa_cons (pv 6) pa_nil)) pe_int (nomark _)) (pss_one (ps_dput (Nat.lt_of_le_of_lt (Nat.add_le_add_left (by decide) _) hr.room.units) (pv 2) (callD D_law_nearest (hr.mono (by decide)) (pa_cons (pv 0) (pa_cons (pe_ix ix_list (pv 6) pe_int (fun _ _ => rfl)) pa_nil))) pe_bl (by rfl))) pss_nil))))))
      (pss_one (ps_ret (pe_callTy call_tuple_ofN (by rfl) T.tuple (by decide +kernel) (pa_cons (pe_callB (cr_sortedDF rfl hr.room.units) (by rfl) T.sorted (by decide +kernel) (pa_cons (pv 2) pa_nil)) pa_nil)))))), ?_⟩
    obtain ⟨⟨g0, g1⟩, hT, l12, good⟩ := id hLs
    obtain ⟨aL, vs, rfl, hS, hall⟩ := hT
    have lv := hall.length
    intro pD nD
    have s0 := same_new (o := .dT []) nD
    have SM : ∀ {H' : Hp} {o : HO}, Same H H' → Same H (upd H' pD o) := fun {H' o} t b ob e => by
      rw [upd_ne (ne_of_none e nD)]; exact t b ob e
    refine ⟨_, rfl, aL, vs, rfl, .inr (seT s0 hS), _, rfl, by omega, by omega, for_range (n := vs.length) (fun i σ H' => ∃ y3 y4 y5 y6 y7, σ = [some (.int g), some (.ref aL), some (.ref pD), y3, y4, y5, y6, y7] ∧ Same H H' ∧ ∃ ss, DK H' pD ss ∧ ss.length ≤ 42 * i ∧ ∀ s, s ∈ ss ↔ s ∈ dueC g ls i) ?_ ?_ ?_⟩
    · exact ⟨_, _, _, _, _, rfl, s0, [], ⟨[], upd_same, rfl, .nil⟩, Nat.le_refl _, fun s => by simp [dueC]⟩
    · rintro i σ H5 hi ⟨y3, y4, y5, y6, y7, rfl, t1, ss, dk, lss, mem⟩
      obtain ⟨v0, hv0⟩ : ∃ v, vs[i]? = some v := ⟨_, List.getElem?_eq_getElem hi⟩
      obtain ⟨l, hl, hvl⟩ := hall.get hv0
      have lm := List.mem_of_getElem? hl
      have gl_ := good l lm
      obtain ⟨a, x, y, rfl, hSl, hx, hy⟩ := id hvl
      rw [Int.zero_add]
      refine ⟨_, rfl, _, rfl, aL, vs, (i : Nat), _, rfl, rfl, seT t1 hS, atI_nat hv0, a, rfl, ⟨_, seT t1 hSl⟩, for_tup (K := K) (a := a) (xs := [x, y]) (fun j σ H' => ∃ y4 y5 y6 y7, σ = [some (.int g), some (.ref aL), some (.ref pD), some (.int (i : Nat)), y4, y5, y6, y7] ∧ Same H H' ∧ ∃ ss2, DK H' pD ss2 ∧ ss2.length ≤ 42 * i + j ∧ ∀ s, s ∈ ss2 ↔ s ∈ ss ∨ s ∈ ([crn g l.1, crn g l.2].take j)) ?_ (fun j σ H' _ z => ?_) (fun j z σ H6 hz w => ?_) (fun σ H6 w => ?_)⟩
      · exact ⟨_, _, _, _, rfl, t1, ss, dk, lss, fun s => by simp⟩
      · obtain ⟨_, _, _, _, _, t2, _⟩ := z
        exact seT t2 hSl
      · obtain ⟨y4, y5, y6, y7, rfl, t2, ss2, ⟨kvs, d1, d2, d3⟩, l2, m2⟩ := w
        have hj : j < 2 := (List.getElem?_eq_some_iff.mp hz).1
        obtain ⟨pt, hpt, hzp⟩ : ∃ pt : Pt, [crn g l.1, crn g l.2][j]? = some (crn g pt) ∧ At2 K H z pt := by
          match j, hz with
          | 0, hz => cases hz; exact ⟨l.1, rfl, hx⟩
          | 1, hz => cases hz; exact ⟨l.2, rfl, hy⟩
          | j + 2, hz => cases hz
        obtain ⟨c, rfl, hc⟩ := hzp
        have lk := DK.len (H := H6) (d := pD) d2
        refine ⟨c, _, rfl, seT t2 hc, rfl, _, _, rfl, _, _, rfl, rfl, ?_⟩
        refine ⟨_, rfl, _, rfl, _, rfl, _, rfl, (by show 3 ≤ sizeLine; decide), fun pT H7 n7 s7 g7 => ?_⟩
        refine ⟨g, .ref pT, (pt.1, pt.2, 1), rfl, ⟨pT, rfl, .inl (.inl g7)⟩, g0, g1, (by show (0 : Int) < 1; decide), (by show (1 : Int) ≤ 2 ^ 46; decide), fun pN H8 n8 s8 g8 => ?_⟩
        have s78 := s7.trans s8
        simp only [Int.one_mul] at g8
        refine ⟨pD, _, rfl, .inr ⟨kvs, flatKey (key2 (crn g pt)), pN, s78 _ _ d1, rfl, by rw [kV_flat]; exact g8, by rw [sizeLine_eq]; omega, rfl⟩, _, _, _, _, rfl, SM (t2.trans s78), addS ss2 (crn g pt), DK.put d2 d3, ?_, fun s => ?_⟩
        · have := len_addS ss2 (crn g pt)
          omega
        · rw [mem_addS, m2 s, List.take_succ, hpt, Option.toList_some, List.mem_append, List.mem_singleton, or_assoc]
      · obtain ⟨y4, y5, y6, y7, rfl, t2, ss2, dk2, l2, m2⟩ := w
        have l2 : ss2.length ≤ 42 * i + 2 := l2
        have m2 : ∀ s, s ∈ ss2 ↔ s ∈ ss ∨ s ∈ [crn g l.1, crn g l.2] := m2
        refine ⟨_, rfl, (i : Nat), rfl, by omega, by omega, fun pE nE => ?_⟩
        refine lcR (lo := 0) (n := i) (fun j H' => Same H6 H' ∧ ∃ acc uss, H' pE = some (.lst acc) ∧ AllAt (AtSome K H') acc uss ∧ (∀ v ∈ acc, v ≠ .ref pE) ∧ uss.length = j ∧ ∀ (m : Nat) us r, uss[m]? = some us → ls[m]? = some r → us.map un3 = cmn l r ∧ ∀ u ∈ us, 0 < u.2.2 ∧ u.2.2 ≤ 2 ^ 46) nE (fun H' e1 e2 => ⟨e1, [], [], e2, .nil, (fun _ z => nomatch z), rfl, fun m us r h => by simp at h⟩) (fun j H' hj z => ?_) (fun H7 z => ?_)
        · obtain ⟨u1, acc, uss, u2, u3, u4, u5, u6⟩ := z
          have t3 := t2.trans u1
          have hjl : j < ls.length := by omega
          obtain ⟨r, hr_⟩ : ∃ r, ls[j]? = some r := ⟨_, List.getElem?_eq_getElem hjl⟩
          obtain ⟨z, hz, hvr⟩ := AllAt.atX hall hr_
          have gr := good r (List.mem_of_getElem? hr_)
          have bdl : ∀ {r : Ln}, GoodLn 2000000 r → BdL r := fun {r} h => by
            obtain ⟨a, b, _⟩ := h
            unfold BdN at a b
            unfold BdL BdC
            omega
          have la := u3.length
          refine ⟨rfl, _, rfl, _, rfl, aL, vs, (i : Nat), _, rfl, rfl, seT t3 hS, atI_nat hv0, _, rfl, _, rfl, aL, vs, _, z, rfl, rfl, seT t3 hS, by rw [Int.zero_add]; exact atI_nat hz, .ref a, z, l, r, rfl, hvl.same t3, hvr.same t3, bdl gl_, bdl gr, fun aC ws us H9 s9 nC g9 hus pos eu lu => ?_⟩
          have k9 := s9 _ _ u2
          have nCE : aC ≠ pE := fun e => nC acc (by rw [e]; exact u2)
          refine ⟨acc, k9, by rw [la, u5, sizeLine_eq]; omega, fun b o e => ?_, acc ++ [.ref aC], uss ++ [us], upd_same, ?_, fun v hv => ?_, by rw [List.length_append, u5]; rfl, fun m us' r' hm hr' => ?_⟩
          · rw [upd_ne (ne_of_none e nE)]; exact (u1.trans s9) _ _ e
          · have u3' : AllAt (fun v us => AtSome K H9 v us ∧ v ≠ .ref pE) acc uss := by
              clear u5 u6 la u2 k9 nC
              induction u3 with
              | nil => exact .nil
              | cons h t ih => exact .cons ⟨h.same s9, u4 _ List.mem_cons_self⟩ (ih fun v hv => u4 v (List.mem_cons_of_mem _ hv))
            exact (u3'.map fun _ _ z => z.1.updL z.2 k9).app (.cons (AtSome.updL (M := pE) ⟨aC, ws, rfl, g9, hus⟩ (fun z => nCE (V.ref.inj z)) k9) .nil)
          · rcases List.mem_append.mp hv with z | z
            · exact u4 v z
            · rw [List.mem_singleton.mp z]
              exact fun z => nCE (V.ref.inj z)
          · rcases Nat.lt_or_ge m j with z | z
            · rw [List.getElem?_append_left (by omega)] at hm
              exact u6 m us' r' hm hr'
            · rw [List.getElem?_append_right (by omega)] at hm
              have e0 : m - uss.length = 0 := by
                have := (List.getElem?_eq_some_iff.mp hm).1
                simpa using this
              rw [e0] at hm
              cases hm
              have : m = j := by omega
              subst this
              obtain rfl : r = r' := Option.some.inj (hr_.symm.trans hr')
              refine ⟨eu, fun u hu => ⟨(pos u hu).1, ?_⟩⟩
              have h1 := (pos u hu).2.2
              have h2 : (trn (less l.2 l.1) (less r.2 r.1)).natAbs ≤ 2 * (4000000 * 4000000) := by
                obtain ⟨⟨⟨a1, a2⟩, a3, a4⟩, ⟨⟨b1, b2⟩, b3, b4⟩, _⟩ := gl_
                obtain ⟨⟨⟨c1, c2⟩, c3, c4⟩, ⟨⟨d1, d2⟩, d3, d4⟩, _⟩ := gr
                unfold trn less
                have m1 : ((l.2.1 - l.1.1) * (r.2.2 - r.1.2)).natAbs ≤ 4000000 * 4000000 := by
                  rw [Int.natAbs_mul]
                  exact Nat.mul_le_mul (by omega) (by omega)
                have m2 : ((l.2.2 - l.1.2) * (r.2.1 - r.1.1)).natAbs ≤ 4000000 * 4000000 := by
                  rw [Int.natAbs_mul]
                  exact Nat.mul_le_mul (by omega) (by omega)
                show ((l.2.1 - l.1.1) * (r.2.2 - r.1.2) - (l.2.2 - l.1.2) * (r.2.1 - r.1.1)).natAbs ≤ _
                omega
              omega
        obtain ⟨u1, acc, uss, u2, u3, _, u5, u6⟩ := z
        have tE := t2.trans u1
        have k7 := dk2.same u1
        refine ⟨pE, rfl, ⟨_, .inl (.inl u2)⟩, for_list (K := K) (a := pE) (xs := acc) (fun j σ H' => ∃ y4 y5 y6 y7, σ = [some (.int g), some (.ref aL), some (.ref pD), some (.int (i : Nat)), y4, y5, y6, y7] ∧ Same H H' ∧ H' pE = some (.lst acc) ∧ AllAt (AtSome K H') acc uss ∧ ∃ ss3, DK H' pD ss3 ∧ ss3.length ≤ 42 * i + 2 + j ∧ ∀ s, s ∈ ss3 ↔ s ∈ ss2 ∨ s ∈ (ls.take j).flatMap fun r => crossC g (cmn l r)) ?_ (fun j σ H' _ z => ?_) (fun j x σ H8 hx z => ?_) (fun σ H8 z => ?_)⟩
        · exact ⟨_, _, _, _, rfl, tE, u2, u3, ss2, k7, l2, fun s => by simp⟩
        · obtain ⟨_, _, _, _, _, _, g, _⟩ := z
          exact .inl (.inl g)
        · obtain ⟨y4, y5, y6, y7, rfl, t8, g8, a8, ss3, dk3, l3, m3⟩ := z
          obtain ⟨us, hus, c, ws, rfl, gc, hws⟩ := a8.get hx
          have hj : j < uss.length := (List.getElem?_eq_some_iff.mp hus).1
          obtain ⟨r, hr_⟩ : ∃ r, ls[j]? = some r := ⟨_, List.getElem?_eq_getElem (by omega)⟩
          obtain ⟨eu, pu⟩ := u6 j us r hus hr_
          have et : (ls.take (j + 1)).flatMap (fun r => crossC g (cmn l r)) = (ls.take j).flatMap (fun r => crossC g (cmn l r)) ++ crossC g (cmn l r) := by
            rw [List.take_succ, hr_, Option.toList_some, List.flatMap_append, List.flatMap_singleton]
          have lw := hws.length
          have lc : (cmn l r).length = us.length := by rw [← eu, List.length_map]
          refine ⟨_, rfl, c, ws, rfl, .inl (.inl (.inl gc)), rfl, _, rfl, ?_⟩
          by_cases h1 : ws.length = 1
          · have e1 : decide (V.int (ws.length : Int) = V.int 1) = true := decide_eq_true (by rw [h1]; rfl)
            rw [e1]
            obtain ⟨w, rfl⟩ := List.length_eq_one_iff.mp h1
            obtain ⟨u, rfl⟩ := List.length_eq_one_iff.mp (lw ▸ h1)
            obtain ⟨cw, rfl, hcw⟩ : At3 K H8 w u := by cases hws with | cons h _ => exact h
            obtain ⟨p0, p1⟩ := pu u (by simp)
            obtain ⟨kvs, d1, d2, d3⟩ := dk3
            have lk := DK.len (H := H8) (d := pD) d2
            have ec : crossC g (cmn l r) = [crnS g u] := by
              rw [← eu]
              show [crnS g (un3 u)] = _
              rw [crn_un3 p0]
            refine iteT ⟨_, rfl, _, rfl, _, rfl, c, _, 0, _, rfl, rfl, .inl (.inl gc), rfl, ?_⟩
            refine ⟨g, .ref cw, u, rfl, ⟨cw, rfl, hcw⟩, g0, g1, p0, p1, fun pN H9 n9 s9 g9 => ?_⟩
            have k9 := s9 _ _ d1
            refine ⟨pD, _, rfl, .inr ⟨kvs, flatKey (key2 (crnS g u)), pN, k9, rfl, by rw [kV_flat]; exact g9, by rw [sizeLine_eq]; omega, rfl⟩, _, _, _, _, rfl, SM (t8.trans s9), ?_, a8.map fun _ _ z => atSome_updD (z.same s9) k9, addS ss3 (crnS g u), DK.put d2 d3, ?_, fun s => ?_⟩
            · rw [upd_ne (ne_of (s9 _ _ g8) k9 (by intro z; cases z))]
              exact s9 _ _ g8
            · have := len_addS ss3 (crnS g u)
              omega
            · rw [mem_addS, m3 s, et, ec, List.mem_append, List.mem_singleton, or_assoc]
          · have e1 : decide (V.int (ws.length : Int) = V.int 1) = false := decide_eq_false (fun z => h1 (by have := V.int.inj z; omega))
            rw [e1]
            have ec : crossC g (cmn l r) = [] := by
              match h : cmn l r, lc with
              | [], _ => rfl
              | [s], lc => exact absurd lc (by rw [← lw]; exact fun z => h1 z.symm)
              | _ :: _ :: _, _ => rfl
            refine iteF ⟨_, _, _, _, rfl, t8, g8, a8, ss3, dk3, by omega, fun s => ?_⟩
            rw [m3 s, et, ec, List.append_nil]
        · obtain ⟨y4, y5, y6, y7, rfl, t8, g8, a8, ss3, dk3, l3, m3⟩ := z
          rw [a8.length, u5] at l3 m3
          refine ⟨_, _, _, _, _, rfl, t8, ss3, dk3, by omega, fun s => ?_⟩
          rw [m3 s, m2 s, mem s, dueC_succ hl]
          unfold cAt
          rw [List.mem_append, List.mem_append, or_assoc]
    · rintro σ H5 ⟨y3, y4, y5, y6, y7, rfl, t1, ss, ⟨kvs, d1, d2, d3⟩, lss, mem⟩
      rw [lv] at lss mem
      have al := alike2 (ds := (ss.map key2).map SG.encF) fun d hd => by
        obtain ⟨k, hk, rfl⟩ := List.mem_map.mp hd
        obtain ⟨s, _, rfl⟩ := List.mem_map.mp hk
        exact ⟨s, rfl⟩
      refine ⟨_, rfl, pD, kvs, ss.map key2, rfl, d1, d2, al.1, al.2, fun L' pm pw hel p7 H7 n7 s7 g7 => ⟨p7, _, rfl, .inl (.inl g7), fun p8 H8 n8 s8 g8 => ?_⟩⟩
      have s78 := s7.trans s8
      have isK : ∀ p ∈ L', ∃ s ∈ ss, p.2 = key2 s := fun p hp => by
        have : p.2 ∈ ss.map key2 := pm.mem_iff.mp (List.mem_map.mpr ⟨p, hp, rfl⟩)
        obtain ⟨s, h1, h2⟩ := List.mem_map.mp this
        exact ⟨s, h1, h2.symm⟩
      have e2 : L'.map (·.2) = (L'.map fun p => unkey2 p.2).map key2 := by
        rw [List.map_map]
        refine List.map_congr_left fun p hp => ?_
        obtain ⟨s, _, h2⟩ := isK p hp
        show p.2 = key2 (unkey2 p.2)
        rw [h2]
        rfl
      have nk : (ss.map key2).Nodup := nodup_keys d3
      obtain ⟨ts, h1, h2, h3, h4⟩ := pts_out (H := H8) (ks := L') (L := L') (L' := L') e2 (fun p hp => elF_same2 (hel p hp) s78) (pm.nodup_iff.mpr nk) (fun _ h => h) (fun p hp => List.mem_map.mpr ⟨p, hp, rfl⟩) (.refl _) pw
      refine q (.ref p8) H8 ts (t1.trans s78) ⟨p8, _, rfl, .inl (.inl g8), h1⟩ ⟨h3.imp fun h => leC_leP h, h2, fun s => ?_⟩
      rw [h4 s, ← mem_dueC (fun r hr => (good r hr).2.2) s, ← mem s]
      refine ⟨fun hs => ?_, fun hs => ?_⟩
      · obtain ⟨p, hp, e⟩ := List.mem_map.mp hs
        obtain ⟨s', q1, q2⟩ := isK p hp
        rw [q2] at e
        rw [← e]
        exact q1
      · have : key2 s ∈ L'.map (·.2) := pm.mem_iff.mpr (List.mem_map.mpr ⟨s, hs, rfl⟩)
        obtain ⟨p, hp, e⟩ := List.mem_map.mp this
        refine List.mem_map.mpr ⟨p, hp, ?_⟩
        show unkey2 p.2 = s
        rw [e]
        rfl

end
end Cl

set_option maxHeartbeats 0
namespace Cl
/-- a row of numbers along a line: at the share (k, m) its value times m -/
def rv (q : Int × Int) (k m : Int) : Int := q.1 * m + q.2 * k
theorem rv_lin (q : Int × Int) (v u k m k' m' : Int) : rv q (v * k + u * k') (v * m + u * m') = v * rv q k m + u * rv q k' m' := by
  unfold rv; grind
theorem mulL {a b c : Int} (h : a ≤ b) (c0 : 0 ≤ c) : c * a ≤ c * b := Int.mul_le_mul_of_nonneg_left h c0
theorem mulR {a b c : Int} (h : a ≤ b) (c0 : 0 ≤ c) : a * c ≤ b * c := Int.mul_le_mul_of_nonneg_right h c0
theorem canR {a b c : Int} (c0 : 0 < c) (h : a * c ≤ b * c) : a ≤ b := Int.le_of_mul_le_mul_right h c0
/-- of a list with an element that has p, one that has p and is least by u against v -/
theorem least_by {α : Type} (p : α → Prop) (u v : α → Int) (hv : ∀ x, p x → 0 < v x) : ∀ (L : List α), (∃ x ∈ L, p x) → ∃ x ∈ L, p x ∧ ∀ y ∈ L, p y → u x * v y ≤ u y * v x
  | [], h => by obtain ⟨x, h, _⟩ := h; cases h
  | a :: L, h => by
    by_cases hL : ∃ x ∈ L, p x
    · obtain ⟨x, hx, px, mn⟩ := least_by p u v hv L hL
      by_cases pa : p a
      · by_cases c : u a * v x ≤ u x * v a
        · refine ⟨a, List.mem_cons_self, pa, fun y hy py => ?_⟩
          rcases List.mem_cons.mp hy with rfl | hy
          · exact Int.le_refl _
          · refine canR (hv x px) ?_
            have h1 := mulR (mn y hy py) (Int.le_of_lt (hv a pa))
            have h2 := mulR c (Int.le_of_lt (hv y py))
            have e1 : u a * v y * v x = u a * v x * v y := by grind
            have e2 : u y * v a * v x = u y * v x * v a := by grind
            have e3 : u x * v a * v y = u x * v y * v a := by grind
            omega
        · refine ⟨x, List.mem_cons_of_mem _ hx, px, fun y hy py => ?_⟩
          rcases List.mem_cons.mp hy with rfl | hy
          · omega
          · exact mn y hy py
      · refine ⟨x, List.mem_cons_of_mem _ hx, px, fun y hy py => ?_⟩
        rcases List.mem_cons.mp hy with rfl | hy
        · exact absurd py pa
        · exact mn y hy py
    · obtain ⟨x, hx, px⟩ := h
      rcases List.mem_cons.mp hx with rfl | hx
      · refine ⟨x, List.mem_cons_self, px, fun y hy py => ?_⟩
        rcases List.mem_cons.mp hy with rfl | hy
        · exact Int.le_refl _
        · exact absurd ⟨y, hy, py⟩ hL
      · exact absurd ⟨x, hx, px⟩ hL
/-- F is the greatest of the rows at each share -/
structure Top (R : List (Int × Int)) (F : Int → Int → Int) : Prop where
  ge : ∀ k m, ∀ q ∈ R, rv q k m ≤ F k m
  at_ : ∀ k m, ∃ q ∈ R, F k m = rv q k m
/-- alike shares have alike greatest values -/
theorem Top.hom {R : List (Int × Int)} {F : Int → Int → Int} (T : Top R F) {A B k m : Int} (B0 : 0 ≤ B) (e : A * m = B * k) : F A B * m ≤ B * F k m := by
  obtain ⟨q, hq, e1⟩ := T.at_ A B
  have h := mulL (T.ge k m q hq) B0
  have e2 : F A B * m = B * rv q k m := by
    rw [e1]
    unfold rv
    have : q.2 * A * m = q.2 * (B * k) := by rw [← e]; grind
    grind
  omega
/-- a least share is an end, or where two rows are alike -/
theorem Top.least {R : List (Int × Int)} {F : Int → Int → Int} (T : Top R F) {k m : Int} (k0 : 0 ≤ k) (k1 : k ≤ m) (m0 : 0 < m) :
    (∃ e : Int, (e = 0 ∨ e = 1) ∧ F e 1 * m ≤ F k m) ∨ ∃ q ∈ R, ∃ t ∈ R, 0 < q.2 - t.2 ∧ 0 ≤ t.1 - q.1 ∧ t.1 - q.1 ≤ q.2 - t.2 ∧ F (t.1 - q.1) (q.2 - t.2) * m ≤ F k m * (q.2 - t.2) ∧ (∀ s ∈ R, rv s (t.1 - q.1) (q.2 - t.2) ≤ rv q (t.1 - q.1) (q.2 - t.2)) := by
  obtain ⟨q, hq, eF⟩ := T.at_ k m
  obtain ⟨e, he, e0, e1, down⟩ : ∃ e : Int, (e = 0 ∨ e = 1) ∧ 0 ≤ e ∧ e ≤ 1 ∧ rv q e 1 * m ≤ rv q k m := by
    by_cases s : 0 ≤ q.2
    · refine ⟨0, .inl rfl, by decide, by decide, ?_⟩
      have := Int.mul_nonneg s k0
      unfold rv
      have e : (q.1 * 1 + q.2 * 0) * m = q.1 * m := by grind
      omega
    · refine ⟨1, .inr rfl, by decide, by decide, ?_⟩
      have := Int.mul_le_mul_of_nonpos_left (show q.2 ≤ 0 by omega) k1
      unfold rv
      have e : (q.1 * 1 + q.2 * 1) * m = q.1 * m + q.2 * m := by grind
      omega
  by_cases top : ∃ t ∈ R, rv q e 1 < rv t e 1
  · refine .inr ?_
    obtain ⟨t, ht, pt, mn⟩ := least_by (fun t => rv q e 1 < rv t e 1) (fun t => rv q k m - rv t k m) (fun t => rv t e 1 - rv q e 1) (fun t h => by omega) R top
    obtain ⟨u, hu⟩ : ∃ u, u = rv q k m - rv t k m := ⟨_, rfl⟩
    obtain ⟨v, hv⟩ : ∃ v, v = rv t e 1 - rv q e 1 := ⟨_, rfl⟩
    have u0 : 0 ≤ u := by have := T.ge k m t ht; omega
    have v0 : 0 < v := by omega
    obtain ⟨K, hK⟩ : ∃ K, K = v * k + u * e := ⟨_, rfl⟩
    obtain ⟨M, hM⟩ : ∃ M, M = v * m + u * 1 := ⟨_, rfl⟩
    have lin : ∀ s, rv s K M = v * rv s k m + u * rv s e 1 := fun s => by rw [hK, hM]; exact rv_lin s v u k m e 1
    have M0 : 0 < M := by have := Int.mul_pos v0 m0; omega
    have K0 : 0 ≤ K := by have := Int.mul_nonneg (Int.le_of_lt v0) k0; have := Int.mul_nonneg u0 e0; omega
    have KM : K ≤ M := by have := mulL k1 (Int.le_of_lt v0); have := mulL e1 u0; omega
    have best : ∀ s ∈ R, rv s K M ≤ rv q K M := fun s hs => by
      rw [lin s, lin q]
      have a1 : 0 ≤ rv q k m - rv s k m := by have := T.ge k m s hs; omega
      have e3 : v * (rv q k m - rv s k m) = v * rv q k m - v * rv s k m := by grind
      have e4 : u * (rv s e 1 - rv q e 1) = u * rv s e 1 - u * rv q e 1 := by grind
      by_cases c : rv q e 1 < rv s e 1
      · have := mn s hs c
        rw [← hu, ← hv] at this
        have e5 : (rv q k m - rv s k m) * v = v * (rv q k m - rv s k m) := Int.mul_comm _ _
        omega
      · have h1 := Int.mul_nonneg (Int.le_of_lt v0) a1
        have h2 := mulL (show rv s e 1 - rv q e 1 ≤ 0 by omega) u0
        rw [Int.mul_zero] at h2
        omega
    have same : rv t K M = rv q K M := by
      rw [lin t, lin q]
      have e1 : rv t k m = rv q k m - u := by omega
      have e2 : rv t e 1 = v + rv q e 1 := by omega
      rw [e1, e2]
      grind
    have FS : F K M * m ≤ F k m * M := by
      obtain ⟨s, hs, es⟩ := T.at_ K M
      have h1 := best s hs
      have h2 : rv q K M * m ≤ rv q k m * M := by
        rw [lin q, hM]
        have := mulL down u0
        have e1 : (v * rv q k m + u * rv q e 1) * m = v * rv q k m * m + u * (rv q e 1 * m) := by grind
        have e2 : rv q k m * (v * m + u * 1) = v * rv q k m * m + u * rv q k m := by grind
        omega
      have h3 := mulR h1 (Int.le_of_lt m0)
      rw [es, eF]
      omega
    have cross : ∀ (a b : Int × Int), a ∈ R → b ∈ R → rv a K M = rv b K M → rv a K M = rv q K M → 0 < a.2 - b.2 → ∃ q ∈ R, ∃ t ∈ R, 0 < q.2 - t.2 ∧ 0 ≤ t.1 - q.1 ∧ t.1 - q.1 ≤ q.2 - t.2 ∧ F (t.1 - q.1) (q.2 - t.2) * m ≤ F k m * (q.2 - t.2) ∧ (∀ s ∈ R, rv s (t.1 - q.1) (q.2 - t.2) ≤ rv q (t.1 - q.1) (q.2 - t.2)) := fun a b ha hb eab eaq B0 => by
      have eA : (b.1 - a.1) * M = (a.2 - b.2) * K := by
        unfold rv at eab
        grind
      have A0 : 0 ≤ b.1 - a.1 := by
        by_cases c : 0 ≤ b.1 - a.1
        · exact c
        · have h1 := Int.mul_nonneg (Int.le_of_lt B0) K0
          have h2 : (b.1 - a.1) * M < 0 := Int.mul_neg_of_neg_of_pos (by omega) M0
          omega
      have A1 : b.1 - a.1 ≤ a.2 - b.2 := canR M0 (by rw [eA]; exact mulL KM (Int.le_of_lt B0))
      refine ⟨a, ha, b, hb, B0, A0, A1, ?_, fun s hs => ?_⟩
      · have h1 := T.hom (A := b.1 - a.1) (B := a.2 - b.2) (k := K) (m := M) (Int.le_of_lt B0) eA
        refine canR M0 ?_
        have h2 := mulR h1 (Int.le_of_lt m0)
        have h3 := mulL FS (Int.le_of_lt B0)
        have e1 : F (b.1 - a.1) (a.2 - b.2) * m * M = F (b.1 - a.1) (a.2 - b.2) * M * m := by grind
        have e2 : (a.2 - b.2) * F K M * m = (a.2 - b.2) * (F K M * m) := by grind
        have e3 : F k m * (a.2 - b.2) * M = (a.2 - b.2) * (F k m * M) := by grind
        omega
      · refine canR M0 ?_
        have hs := mulL (best s hs) (Int.le_of_lt B0)
        have e1 : ∀ x : Int × Int, rv x (b.1 - a.1) (a.2 - b.2) * M = (a.2 - b.2) * rv x K M := fun x => by
          unfold rv
          have : x.2 * (b.1 - a.1) * M = x.2 * ((a.2 - b.2) * K) := by rw [← eA]; grind
          grind
        rw [e1 s, e1 a, eaq]
        exact hs
    rcases Int.lt_trichotomy (q.2 - t.2) 0 with c | c | c
    · exact cross t q ht hq same same (by omega)
    · exfalso
      have e1 : rv t e 1 - rv q e 1 = t.1 - q.1 := by
        unfold rv
        have : t.2 = q.2 := by omega
        rw [this]; omega
      have e2 : rv t K M - rv q K M = (t.1 - q.1) * M := by
        unfold rv
        have : t.2 = q.2 := by omega
        rw [this]; grind
      have := Int.mul_pos (show 0 < t.1 - q.1 by omega) M0
      omega
    · exact cross q t hq ht same.symm rfl c
  · refine .inl ⟨e, he, ?_⟩
    obtain ⟨s, hs, es⟩ := T.at_ e 1
    have h1 : rv s e 1 ≤ rv q e 1 := Int.not_lt.mp fun z => top ⟨s, hs, z⟩
    have h2 := mulR h1 (Int.le_of_lt m0)
    rw [es, eF]
    omega
end Cl

set_option maxHeartbeats 0
namespace Cl
open PySem PySem.Spec PyProof.Rows L2

def abI (i : Int) : Int := if i < 0 then -i else i
def mxI (i j : Int) : Int := if j > i then j else i
/-- how far the line's first point is from the corner -/
def xg (g : Int) (r : Ln) (c : Pt) : Pt := (r.1.1 - c.1 * g, r.1.2 - c.2 * g)
def dlt (r : Ln) : Pt := (r.2.1 - r.1.1, r.2.2 - r.1.2)
/-- how far off at the share (k, m), times m -/
def farN (g : Int) (r : Ln) (c : Pt) (k m : Int) : Int := mxI (abI (m * (xg g r c).1 + k * (dlt r).1)) (abI (m * (xg g r c).2 + k * (dlt r).2))
def rows4 (g : Int) (r : Ln) (c : Pt) : List (Int × Int) := [((xg g r c).1, (dlt r).1), (0 - (xg g r c).1, 0 - (dlt r).1), ((xg g r c).2, (dlt r).2), (0 - (xg g r c).2, 0 - (dlt r).2)]
theorem top4 (g : Int) (r : Ln) (c : Pt) : Top (rows4 g r c) (farN g r c) := by
  have ex : ∀ k m : Int, m * (xg g r c).1 + k * (dlt r).1 = rv ((xg g r c).1, (dlt r).1) k m := fun k m => by unfold rv; grind
  have ey : ∀ k m : Int, m * (xg g r c).2 + k * (dlt r).2 = rv ((xg g r c).2, (dlt r).2) k m := fun k m => by unfold rv; grind
  have nx : ∀ (a b k m : Int), rv (0 - a, 0 - b) k m = -rv (a, b) k m := fun a b k m => by unfold rv; grind
  constructor
  · intro k m q hq
    unfold farN
    rw [ex, ey]
    unfold rows4 at hq
    simp only [List.mem_cons, List.not_mem_nil, or_false] at hq
    unfold mxI abI
    rcases hq with rfl | rfl | rfl | rfl
    · split <;> split <;> split <;> omega
    · rw [nx]; split <;> split <;> split <;> omega
    · split <;> split <;> split <;> omega
    · rw [nx]; split <;> split <;> split <;> omega
  · intro k m
    unfold farN
    rw [ex, ey]
    have h1 : abI (rv ((xg g r c).1, (dlt r).1) k m) = rv ((xg g r c).1, (dlt r).1) k m ∨ abI (rv ((xg g r c).1, (dlt r).1) k m) = rv (0 - (xg g r c).1, 0 - (dlt r).1) k m := by
      rw [nx]; unfold abI; split <;> omega
    have h2 : abI (rv ((xg g r c).2, (dlt r).2) k m) = rv ((xg g r c).2, (dlt r).2) k m ∨ abI (rv ((xg g r c).2, (dlt r).2) k m) = rv (0 - (xg g r c).2, 0 - (dlt r).2) k m := by
      rw [nx]; unfold abI; split <;> omega
    unfold mxI
    split
    · rcases h2 with h2 | h2
      · exact ⟨_, by unfold rows4; simp, h2⟩
      · exact ⟨_, by unfold rows4; simp, h2⟩
    · rcases h1 with h1 | h1
      · exact ⟨_, by unfold rows4; simp, h1⟩
      · exact ⟨_, by unfold rows4; simp, h1⟩
theorem far_nn (g : Int) (r : Ln) (c : Pt) (k m : Int) : 0 ≤ farN g r c k m := by
  unfold farN mxI abI
  split <;> split <;> split <;> omega
/-- how far the line is from the corner, in cells -/
structure Nst (g : Int) (r : Ln) (c : Pt) (z : Int × Int) : Prop where
  pos : 0 < z.2
  at_ : ∃ k m, 0 ≤ k ∧ k ≤ m ∧ 0 < m ∧ z.1 * (m * g) = farN g r c k m * z.2
  low : ∀ k m, 0 ≤ k → k ≤ m → 0 < m → z.1 * (m * g) ≤ farN g r c k m * z.2
theorem Nst.le {g : Int} {r : Ln} {c : Pt} {z w : Int × Int} (g0 : 0 < g) (hz : Nst g r c z) (hw : Nst g r c w) : z.1 * w.2 ≤ w.1 * z.2 := by
  obtain ⟨k, m, k0, k1, m0, e⟩ := hw.at_
  have h := hz.low k m k0 k1 m0
  have mg : 0 < m * g := Int.mul_pos m0 g0
  refine canR mg ?_
  have h2 := mulR h (Int.le_of_lt hw.pos)
  have e1 : z.1 * w.2 * (m * g) = z.1 * (m * g) * w.2 := by grind
  have e2 : w.1 * z.2 * (m * g) = farN g r c k m * w.2 * z.2 := by rw [← e]; grind
  have e3 : farN g r c k m * z.2 * w.2 = farN g r c k m * w.2 * z.2 := by grind
  omega
theorem Nst.one {g : Int} {r : Ln} {c : Pt} {z w : Int × Int} (g0 : 0 < g) (hz : Nst g r c z) (hw : Nst g r c w) : z.1 * w.2 = w.1 * z.2 := Int.le_antisymm (hz.le g0 hw) (hw.le g0 hz)
theorem Nst.nn {g : Int} {r : Ln} {c : Pt} {z : Int × Int} (g0 : 0 < g) (hz : Nst g r c z) : 0 ≤ z.1 := by
  obtain ⟨k, m, k0, k1, m0, e⟩ := hz.at_
  have h1 := Int.mul_nonneg (far_nn g r c k m) (Int.le_of_lt hz.pos)
  exact canR (Int.mul_pos m0 g0) (by omega)
/-- shares among which one is nearest -/
def Cov (g : Int) (r : Ln) (c : Pt) (S : List (Int × Int)) : Prop := ∀ k m, 0 ≤ k → k ≤ m → 0 < m → ∃ s ∈ S, 0 < s.2 ∧ farN g r c s.1 s.2 * m ≤ farN g r c k m * s.2
theorem nst_of {g : Int} {r : Ln} {c : Pt} {S : List (Int × Int)} {z : Int × Int} (g0 : 0 < g) (hS : Cov g r c S) (z0 : 0 ≤ z.1) (z1 : z.1 ≤ z.2) (z2 : 0 < z.2)
    (mn : ∀ s ∈ S, farN g r c z.1 z.2 * s.2 ≤ farN g r c s.1 s.2 * z.2) : Nst g r c (farN g r c z.1 z.2, z.2 * g) := by
  refine ⟨Int.mul_pos z2 g0, ⟨z.1, z.2, z0, z1, z2, rfl⟩, fun k m k0 k1 m0 => ?_⟩
  obtain ⟨s, hs, s0, h⟩ := hS k m k0 k1 m0
  have h1 := mn s hs
  refine canR s0 ?_
  have h2 := mulR h1 (Int.le_of_lt (Int.mul_pos m0 g0))
  have h3 := mulR h (Int.le_of_lt (Int.mul_pos z2 g0))
  show farN g r c z.1 z.2 * (m * g) * s.2 ≤ farN g r c k m * (z.2 * g) * s.2
  have e1 : farN g r c z.1 z.2 * (m * g) * s.2 = farN g r c z.1 z.2 * s.2 * (m * g) := by grind
  have e2 : farN g r c s.1 s.2 * z.2 * (m * g) = farN g r c s.1 s.2 * m * (z.2 * g) := by grind
  have e3 : farN g r c k m * s.2 * (z.2 * g) = farN g r c k m * (z.2 * g) * s.2 := by grind
  omega

/-! ### the program's shares -/
def flipS (z : Int × Int) : Int × Int := if z.2 < 0 then (-z.1, -z.2) else z
def tadd (z : Int × Int) : List (Int × Int) := if (0 ≤ (flipS z).1 ∧ (flipS z).1 ≤ (flipS z).2) ∧ 0 < (flipS z).2 then [lowN (flipS z).1 (flipS z).2] else []
def tz1 (g : Int) (r : Ln) (c : Pt) : Int × Int := ((xg g r c).2 - (xg g r c).1, (dlt r).1 - (dlt r).2)
def tz2 (g : Int) (r : Ln) (c : Pt) : Int × Int := (-(xg g r c).1 - (xg g r c).2, (dlt r).1 + (dlt r).2)
def tsh (g : Int) (r : Ln) (c : Pt) : List (Int × Int) := (1, 1) :: (tadd (tz1 g r c) ++ tadd (tz2 g r c))
theorem low_rat {n d : Int} (hd : 0 < d) : 0 < (lowN n d).2 ∧ (lowN n d).1 * d = n * (lowN n d).2 ∧ (lowN n d).2 ≤ d := by
  obtain ⟨k, ek, k0, kd, e1, e2, p⟩ := low_parts (n := n) hd
  unfold lowN
  rw [← ek]
  refine ⟨p, ?_, ?_⟩
  · show n / k * d = n * (d / k)
    have : n / k * d = n / k * (d / k * k) := by rw [← e2]
    have e3 : n * (d / k) = n / k * k * (d / k) := by rw [← e1]
    rw [this, e3]; grind
  · show d / k ≤ d
    have := mulL (show 1 ≤ k by omega) (Int.le_of_lt p)
    omega
theorem tadd_in {z s : Int × Int} (h : s ∈ tadd z) : 0 < s.2 ∧ 0 ≤ s.1 ∧ s.1 ≤ s.2 ∧ s.2 ≤ (flipS z).2 := by
  unfold tadd at h
  split at h
  · rename_i c
    rw [List.mem_singleton.mp h]
    obtain ⟨h1, h2, h3⟩ := low_rat (n := (flipS z).1) c.2
    refine ⟨h1, ?_, ?_, h3⟩
    · refine canR c.2 ?_
      rw [h2, Int.zero_mul]
      exact Int.mul_nonneg c.1.1 (Int.le_of_lt h1)
    · refine canR c.2 ?_
      rw [h2, Int.mul_comm]
      exact mulL c.1.2 (Int.le_of_lt h1)
  · cases h
theorem tadd_cov {z : Int × Int} {A B : Int} (B0 : 0 < B) (A0 : 0 ≤ A) (A1 : A ≤ B) (e : A * z.2 = B * z.1) (n : z.2 ≠ 0) : ∃ s ∈ tadd z, s.1 * B = s.2 * A := by
  obtain ⟨w, hw⟩ : ∃ w, w = flipS z := ⟨_, rfl⟩
  have w2 : 0 < w.2 ∧ A * w.2 = B * w.1 := by
    rw [hw]
    unfold flipS
    split
    · refine ⟨by show 0 < -z.2; omega, ?_⟩
      show A * -z.2 = B * -z.1
      rw [Int.mul_neg, Int.mul_neg, e]
    · exact ⟨by omega, e⟩
  have w0 : 0 ≤ w.1 := by
    have := Int.mul_nonneg A0 (Int.le_of_lt w2.1)
    exact canR B0 (by rw [Int.zero_mul, Int.mul_comm, ← w2.2]; exact this)
  have w1 : w.1 ≤ w.2 := canR B0 (by rw [Int.mul_comm, ← w2.2, Int.mul_comm]; exact mulL A1 (Int.le_of_lt w2.1))
  refine ⟨lowN w.1 w.2, ?_, ?_⟩
  · unfold tadd
    rw [← hw, if_pos ⟨⟨w0, w1⟩, w2.1⟩]
    exact List.mem_cons_self
  · obtain ⟨h1, h2, _⟩ := low_rat (n := w.1) w2.1
    have k : (lowN w.1 w.2).1 * B * w.2 = (lowN w.1 w.2).2 * A * w.2 := by
      have e1 : (lowN w.1 w.2).1 * B * w.2 = (lowN w.1 w.2).1 * w.2 * B := by grind
      have e2 : (lowN w.1 w.2).2 * A * w.2 = (lowN w.1 w.2).2 * (A * w.2) := by grind
      rw [e1, e2, h2, w2.2]; grind
    exact Int.eq_of_mul_eq_mul_right (by omega) k
theorem cross_tz {g : Int} {r : Ln} {c : Pt} {q t : Int × Int} (hq : q ∈ rows4 g r c) (ht : t ∈ rows4 g r c) (B0 : 0 < q.2 - t.2)
    (best : ∀ s ∈ rows4 g r c, rv s (t.1 - q.1) (q.2 - t.2) ≤ rv q (t.1 - q.1) (q.2 - t.2)) :
    ((t.1 - q.1) * (tz1 g r c).2 = (q.2 - t.2) * (tz1 g r c).1 ∧ (tz1 g r c).2 ≠ 0) ∨ ((t.1 - q.1) * (tz2 g r c).2 = (q.2 - t.2) * (tz2 g r c).1 ∧ (tz2 g r c).2 ≠ 0) := by
  unfold rows4 at hq ht best
  simp only [List.mem_cons, List.not_mem_nil, or_false, forall_eq_or_imp, forall_eq] at hq ht best
  unfold tz1 tz2
  generalize (xg g r c).1 = x at *
  generalize (xg g r c).2 = y at *
  generalize (dlt r).1 = dx at *
  generalize (dlt r).2 = dy at *
  have same : ∀ {A B : Int}, 0 < B → x * B + dx * A = 0 → y * B + dy * A = 0 → (B = 2 * dx ∨ B = -(2 * dx) ∨ B = 2 * dy ∨ B = -(2 * dy)) → (A * (dx - dy) = B * (y - x) ∧ dx - dy ≠ 0) ∨ (A * (dx + dy) = B * (-x - y) ∧ dx + dy ≠ 0) := fun {A B} hB h1 h2 h3 => by
    by_cases n : dx - dy = 0
    · refine .inr ⟨by grind, by omega⟩
    · exact .inl ⟨by grind, n⟩
  rcases hq with rfl | rfl | rfl | rfl <;> rcases ht with rfl | rfl | rfl | rfl <;> simp only at B0 best ⊢
  · omega
  · refine same B0 ?_ ?_ (.inl (by omega))
    · grind
    · have h1 := best.2.2.1; have h2 := best.2.2.2; have h0 : rv (x, dx) (0 - x - x) (dx - (0 - dx)) = 0 := by unfold rv; grind
      rw [h0] at h1 h2
      unfold rv at h1 h2
      simp only at h1 h2
      grind
  · refine .inl ⟨by grind, by omega⟩
  · refine .inr ⟨by grind, by omega⟩
  · refine same B0 ?_ ?_ (.inr (.inl (by omega)))
    · grind
    · have h1 := best.2.2.1; have h2 := best.2.2.2; have h0 : rv (0 - x, 0 - dx) (x - (0 - x)) (0 - dx - dx) = 0 := by unfold rv; grind
      rw [h0] at h1 h2
      unfold rv at h1 h2
      simp only at h1 h2
      grind
  · omega
  · refine .inr ⟨by grind, by omega⟩
  · refine .inl ⟨by grind, by omega⟩
  · refine .inl ⟨by grind, by omega⟩
  · refine .inr ⟨by grind, by omega⟩
  · omega
  · refine same B0 ?_ ?_ (.inr (.inr (.inl (by omega))))
    · have h1 := best.1; have h2 := best.2.1; have h0 : rv (y, dy) (0 - y - y) (dy - (0 - dy)) = 0 := by unfold rv; grind
      rw [h0] at h1 h2
      unfold rv at h1 h2
      simp only at h1 h2
      grind
    · grind
  · refine .inr ⟨by grind, by omega⟩
  · refine .inl ⟨by grind, by omega⟩
  · refine same B0 ?_ ?_ (.inr (.inr (.inr (by omega))))
    · have h1 := best.1; have h2 := best.2.1; have h0 : rv (0 - y, 0 - dy) (y - (0 - y)) (0 - dy - dy) = 0 := by unfold rv; grind
      rw [h0] at h1 h2
      unfold rv at h1 h2
      simp only at h1 h2
      grind
    · grind
  · omega
theorem cov_tsh (g : Int) (r : Ln) (c : Pt) : Cov g r c ((0, 1) :: tsh g r c) := fun k m k0 k1 m0 => by
  rcases (top4 g r c).least k0 k1 m0 with ⟨e, he, h⟩ | ⟨q, hq, t, ht, B0, A0, A1, h, best⟩
  · refine ⟨(e, 1), ?_, (by show (0 : Int) < 1; decide), by show farN g r c e 1 * m ≤ farN g r c k m * 1; omega⟩
    rcases he with rfl | rfl
    · exact List.mem_cons_self
    · unfold tsh; simp
  · have go : ∀ z, z = tz1 g r c ∨ z = tz2 g r c → (t.1 - q.1) * z.2 = (q.2 - t.2) * z.1 → z.2 ≠ 0 → ∃ s ∈ (0, 1) :: tsh g r c, 0 < s.2 ∧ farN g r c s.1 s.2 * m ≤ farN g r c k m * s.2 := fun z hz e n => by
      obtain ⟨s, hs, es⟩ := tadd_cov B0 A0 A1 e n
      have s0 := (tadd_in hs).1
      refine ⟨s, ?_, s0, ?_⟩
      · unfold tsh
        simp only [List.mem_cons, List.mem_append]
        rcases hz with rfl | rfl
        · exact .inr (.inr (.inl hs))
        · exact .inr (.inr (.inr hs))
      · have h1 := (top4 g r c).hom (A := s.1) (B := s.2) (k := t.1 - q.1) (m := q.2 - t.2) (Int.le_of_lt s0) es
        refine canR B0 ?_
        have h2 := mulR h1 (Int.le_of_lt m0)
        have h3 := mulL h (Int.le_of_lt s0)
        have e1 : farN g r c s.1 s.2 * m * (q.2 - t.2) = farN g r c s.1 s.2 * (q.2 - t.2) * m := by grind
        have e2 : s.2 * farN g r c (t.1 - q.1) (q.2 - t.2) * m = s.2 * (farN g r c (t.1 - q.1) (q.2 - t.2) * m) := by grind
        have e3 : farN g r c k m * s.2 * (q.2 - t.2) = s.2 * (farN g r c k m * (q.2 - t.2)) := by grind
        omega
    rcases cross_tz hq ht B0 best with ⟨e, n⟩ | ⟨e, n⟩
    · exact go _ (.inl rfl) e n
    · exact go _ (.inr rfl) e n
end Cl

set_option maxHeartbeats 0
namespace Cl
open PySem PySem.Spec PyProof.Rows L2
open GxR (TabB TabG)

section
variable {P : Program} {w : World} {K : PySem.W.Frag} {mg : Str → Option Value} {base : Heap}

theorem ok_law_moved {f : Addr} {fd : FuncData} (F : Fun K "_law_moved" "_law_moved" s_law_moved f fd) (T : Bt mg) :
    FnG P w K mg base CX0 1 f fd ["_law_lines_here", "_law_dx", "_law_dy"] (spMovedW K) := by
  refine okG (k := 0) F sc_law_moved (fun vs H Q E h => ?_) (fun cdv A outer s H vs Q E hr h => ?_)
  · obtain ⟨v, ls, dx, dy, rfl, _⟩ := h
    rfl
  · obtain ⟨v, ls, dx, dy, rfl, ⟨L, ws, rfl, eL, hall⟩, hlen, q⟩ := h
    refine ⟨_, (pss_one (ps_ret (pe_callTy call_tuple_ofN (by rfl) T.tuple (by decide +kernel) (pa_cons (pe_lc (own := [("_law_x", 3), ("_law_y", 4), ("_law_u", 5), ("_law_v", 6)]) (g := gTup K 2 (gCons (gTup K 2 (gCons (gName 3) (gCons (gName 4) gNil))) (gCons (gTup K 2 (gCons (gName 5) (gCons (gName 6) gNil))) gNil))) (tt := tYes) (by rfl) sc_law_moved.nd (pi_tup (pv 0)) (blkOk_by (own := [("_law_x", 3), ("_law_y", 4), ("_law_u", 5), ("_law_v", 6)]) (N := ["_law_lines_here", "_law_dx", "_law_dy", "_law_x", "_law_y", "_law_u", "_law_v"]) (sc := defScope s_law_moved) (by decide +kernel)) (fun _ _ _ _ _ => (pg_tup (by rfl) (pgs_cons (pg_tup (by rfl) (pgs_cons (pg_name (i := 3) sc_law_moved.nd rfl (.inl rfl)) (pgs_cons (pg_name (i := 4) sc_law_moved.nd rfl (.inl rfl)) pgs_nil))) (pgs_cons (pg_tup (by rfl) (pgs_cons (pg_name (i := 5) sc_law_moved.nd rfl (.inl rfl)) (pgs_cons (pg_name (i := 6) sc_law_moved.nd rfl (.inl rfl)) pgs_nil))) pgs_nil)))) (fun _ _ _ _ _ => pts_nil) (fun _ _ _ _ _ => (tupN (pa_cons (tupN (pa_cons (pe_op op_add (pv 3) (pv 1)) (pa_cons (pe_op op_add (pv 4) (pv 2)) pa_nil))) (pa_cons (tupN (pa_cons (pe_op op_add (pv 5) (pv 1)) (pa_cons (pe_op op_add (pv 6) (pv 2)) pa_nil))) pa_nil))))) pa_nil)))), ?_⟩
    refine ⟨_, rfl, L, rfl, ⟨_, eL⟩, fun pD nD => ?_⟩
    refine lcT (K := K) (a := L) (xs := ws) (fun i H' => Same H H' ∧ ∃ vs, H' pD = some (.lst vs) ∧ AllAt (AtL K H') vs ((ls.take i).map (mvL dx dy))) nD (fun H' e1 e2 => ⟨e1, [], e2, .nil⟩) (fun i H' _ z => seT z.1 eL) (fun i z H' hz w => ?_) (fun H6 z => ?_)
    · obtain ⟨t1, vs, t2, t3⟩ := w
      obtain ⟨r, hr_, a, _, _, rfl, hS, ⟨b, rfl, hb⟩, ⟨c, rfl, hc⟩⟩ := hall.get hz
      refine ⟨a, _, rfl, seT t1 hS, rfl, _, _, rfl, b, _, rfl, seT t1 hb, rfl, _, _, rfl, _, _, rfl, rfl, _, _, rfl, c, _, rfl, seT t1 hc, rfl, _, _, rfl, _, _, rfl, rfl, rfl, ?_⟩
      refine ⟨rfl, _, rfl, _, rfl, _, _, rfl, rfl, _, rfl, _, rfl, _, _, rfl, rfl, (by show 2 ≤ sizeLine; decide), fun p7 H7 n7 s7 g7 => ?_⟩
      refine ⟨_, rfl, _, rfl, _, _, rfl, rfl, _, rfl, _, rfl, _, _, rfl, rfl, (by show 2 ≤ sizeLine; decide), fun p8 H8 n8 s8 g8 => ⟨(by show 2 ≤ sizeLine; decide), fun p9 H9 n9 s9 g9 => ?_⟩⟩
      have s79 := (s7.trans s8).trans s9
      have k9 := s79 _ _ t2
      refine ⟨vs, k9, by rw [t3.length, List.length_map, List.length_take]; exact small1000 (by omega), fun b o z => ?_, vs ++ [.ref p9], upd_same, ?_⟩
      · rw [upd_ne (ne_of_none z nD)]; exact (t1.trans s79) _ _ z
      · rw [List.take_add_one, hr_, List.map_append]
        exact AllAt.app (t3.map fun _ _ z => AtL.upd (z.same s79) k9) (.cons (AtL.upd ⟨p9, _, _, rfl, .inl (.inl g9), ⟨p7, rfl, .inl (.inl ((s8.trans s9) _ _ g7))⟩, ⟨p8, rfl, .inl (.inl (s9 _ _ g8))⟩⟩ k9) .nil)
    · obtain ⟨t1, vs, t2, t3⟩ := z
      rw [hall.length, List.take_length] at t3
      exact ⟨pD, vs, rfl, .inl (.inl t2), fun p8 H8 n8 s8 g8 => q _ _ (t1.trans s8) ⟨p8, vs, rfl, .inl (.inl g8), t3.map fun _ _ z => z.same s8⟩⟩


end
end Cl

set_option maxHeartbeats 0
namespace Cl
open PySem PySem.Spec PyProof.Rows L2
open GxR (TabB TabG)

def PtH (H : Hp) (v : V) (p : Pt) : Prop := ∃ b, v = .ref b ∧ H b = some (.tup [.int p.1, .int p.2])
theorem PtH.same {H H' : Hp} {v : V} {p : Pt} (h : PtH H v p) (s : Same H H') : PtH H' v p := by
  obtain ⟨b, e, h⟩ := h
  exact ⟨b, e, s _ _ h⟩
theorem PtH.at2 {K : PySem.W.Frag} {H : Hp} {v : V} {p : Pt} (h : PtH H v p) : At2 K H v p := by
  obtain ⟨b, e, h⟩ := h
  exact ⟨b, e, .inl (.inl h)⟩
theorem tupU {H : Hp} {M b : Addr} {ys xs : List V} {o : HO} (e : H M = some (.lst ys)) (h : H b = some (.tup xs)) : L2.upd H M o b = some (.tup xs) := by
  rw [upd_ne fun z => by rw [z, e] at h; cases h]
  exact h
theorem PtH.upd {H : Hp} {M : Addr} {xs : List V} {o : HO} {v : V} {p : Pt} (h : PtH H v p) (e : H M = some (.lst xs)) : PtH (L2.upd H M o) v p := by
  obtain ⟨b, e1, h⟩ := h
  exact ⟨b, e1, tupU e h⟩
theorem PtH.step {H H' : Hp} {d l : Addr} {v : V} {p : Pt} (h : PtH H v p) (S : Step d l H H') (D : Deck H d l) : PtH H' v p := by
  obtain ⟨b, e1, h⟩ := h
  obtain ⟨ns, s, c, h1, h2, _⟩ := D.ex
  exact ⟨b, e1, S.at (ne_of h h1 (by intro z; cases z)) (ne_of h h2 (by intro z; cases z)) h⟩

theorem At2U {K : PySem.W.Frag} {H : Hp} {M : Addr} {xs : List V} {o : HO} {v : V} {p : Pt} (h : At2 K H v p) (e : H M = some (.lst xs)) : At2 K (L2.upd H M o) v p := by
  obtain ⟨b, e1, h⟩ := h
  exact ⟨b, e1, updT e h⟩
/-- the nearest share: the first least one -/
def pick (g : Int) (r : Ln) (c : Pt) (b s : Pt) : Pt := if farN g r c s.1 s.2 * (b.2 * g) < farN g r c b.1 b.2 * (s.2 * g) then s else b
def nearS (g : Int) (r : Ln) (c : Pt) : Pt := (tsh g r c).foldl (pick g r c) (0, 1)
theorem fold_min {g : Int} {r : Ln} {c : Pt} (g0 : 0 < g) : ∀ (L : List Pt) (b : Pt), 0 < b.2 → (∀ s ∈ L, 0 < s.2) → L.foldl (pick g r c) b ∈ b :: L ∧ ∀ s ∈ b :: L, farN g r c (L.foldl (pick g r c) b).1 (L.foldl (pick g r c) b).2 * s.2 ≤ farN g r c s.1 s.2 * (L.foldl (pick g r c) b).2
  | [], b, b0, _ => ⟨List.mem_cons_self, fun s hs => by rw [List.mem_singleton.mp hs]; exact Int.le_refl _⟩
  | a :: L, b, b0, h => by
    have a0 := h a List.mem_cons_self
    obtain ⟨p, hp⟩ : ∃ p, p = pick g r c b a := ⟨_, rfl⟩
    have key : (p = a ∨ p = b) ∧ farN g r c p.1 p.2 * a.2 ≤ farN g r c a.1 a.2 * p.2 ∧ farN g r c p.1 p.2 * b.2 ≤ farN g r c b.1 b.2 * p.2 := by
      rw [hp]
      unfold pick
      have e1 : farN g r c a.1 a.2 * (b.2 * g) = farN g r c a.1 a.2 * b.2 * g := by grind
      have e2 : farN g r c b.1 b.2 * (a.2 * g) = farN g r c b.1 b.2 * a.2 * g := by grind
      split
      · rename_i c1
        exact ⟨.inl rfl, Int.le_refl _, canR g0 (by omega)⟩
      · rename_i c1
        exact ⟨.inr rfl, canR g0 (by omega), Int.le_refl _⟩
    have p0 : 0 < p.2 := by rcases key.1 with e | e <;> rw [e] <;> assumption
    obtain ⟨i1, i2⟩ := fold_min g0 L p p0 fun s hs => h s (List.mem_cons_of_mem _ hs)
    rw [List.foldl_cons, ← hp]
    generalize L.foldl (pick g r c) p = z at i1 i2
    have z0 : 0 < z.2 := by
      rcases List.mem_cons.mp i1 with e | e
      · rw [e]; exact p0
      · exact h z (List.mem_cons_of_mem _ e)
    have tr : ∀ s : Pt, 0 < s.2 → farN g r c p.1 p.2 * s.2 ≤ farN g r c s.1 s.2 * p.2 → farN g r c z.1 z.2 * s.2 ≤ farN g r c s.1 s.2 * z.2 := fun s s0 hs => by
      refine canR p0 ?_
      have h1 := mulR (i2 p List.mem_cons_self) (Int.le_of_lt s0)
      have h2 := mulR hs (Int.le_of_lt z0)
      have e1 : farN g r c z.1 z.2 * s.2 * p.2 = farN g r c z.1 z.2 * p.2 * s.2 := by grind
      have e2 : farN g r c p.1 p.2 * z.2 * s.2 = farN g r c p.1 p.2 * s.2 * z.2 := by grind
      have e3 : farN g r c s.1 s.2 * p.2 * z.2 = farN g r c s.1 s.2 * z.2 * p.2 := by grind
      omega
    refine ⟨?_, fun s hs => ?_⟩
    · rcases List.mem_cons.mp i1 with e | e
      · rcases key.1 with e2 | e2
        · rw [e, e2]; simp
        · rw [e, e2]; simp
      · exact List.mem_cons_of_mem _ (List.mem_cons_of_mem _ e)
    · rcases List.mem_cons.mp hs with rfl | hs
      · exact tr _ b0 key.2.2
      · rcases List.mem_cons.mp hs with rfl | hs
        · exact tr _ a0 key.2.1
        · exact i2 s (List.mem_cons_of_mem _ hs)
def spFrom (K : PySem.W.Frag) : Sp := fun vs H Q _ => ∃ g v u r c, vs = [.int g, v, u] ∧ AtL K H v r ∧ At2 K H u c ∧ BdW g r c ∧ ∀ w H', Same H H' → At2 K H' w (xg g r c) → Q w H'
def okK (k m : Int) : Prop := 0 ≤ k ∧ k ≤ m ∧ 0 < m ∧ m ≤ 20000000
def spWayOff (K : PySem.W.Frag) : Sp := fun vs H Q _ => ∃ g v u x r c s, vs = [.int g, v, u, x] ∧ AtL K H v r ∧ At2 K H u c ∧ At2 K H x s ∧ BdW g r c ∧ okK s.1 s.2 ∧ ∀ w H', Same H H' → At2 K H' w (farN g r c s.1 s.2, s.2 * g) → ShB (farN g r c s.1 s.2, s.2 * g) → Q w H'
def spTurning (K : PySem.W.Frag) : Sp := fun vs H Q _ => ∃ g v u r c, vs = [.int g, v, u] ∧ AtL K H v r ∧ At2 K H u c ∧ BdW g r c ∧ ∀ L H' ws, Same H H' → H' L = some (.lst ws) → AllAt (At2 K H') ws (tsh g r c) → (∀ s ∈ tsh g r c, okK s.1 s.2) → Q (.ref L) H'
def spNearS (K : PySem.W.Frag) : Sp := fun vs H Q _ => ∃ g v u r c, vs = [.int g, v, u] ∧ AtL K H v r ∧ At2 K H u c ∧ BdW g r c ∧ ∀ w H', Same H H' → At2 K H' w (nearS g r c) → okK (nearS g r c).1 (nearS g r c).2 → Nst g r c (farN g r c (nearS g r c).1 (nearS g r c).2, (nearS g r c).2 * g) → Q w H'

theorem xg_bd {g : Int} {r : Ln} {c : Pt} (h : BdW g r c) : BdN 3003000000 (xg g r c) := by
  obtain ⟨g0, g1, ⟨⟨a1, a2⟩, a3, a4⟩, _, ⟨⟨c1, c2⟩, c3, c4⟩⟩ := h
  have k : ∀ x : Int, -3000000 ≤ x → x ≤ 3000000 → -3000000000 ≤ x * g ∧ x * g ≤ 3000000000 := fun x h1 h2 => by
    have e1 := mulR h1 (Int.le_of_lt g0)
    have e2 := mulR h2 (Int.le_of_lt g0)
    omega
  have k1 := k _ c1 c2
  have k2 := k _ c3 c4
  exact ⟨⟨by show -_ ≤ r.1.1 - c.1 * g; omega, by show r.1.1 - c.1 * g ≤ _; omega⟩, by show -_ ≤ r.1.2 - c.2 * g; omega, by show r.1.2 - c.2 * g ≤ _; omega⟩
theorem dlt_bd {g : Int} {r : Ln} {c : Pt} (h : BdW g r c) : BdN 6000000 (dlt r) := by
  obtain ⟨g0, g1, ⟨⟨a1, a2⟩, a3, a4⟩, ⟨⟨b1, b2⟩, b3, b4⟩, _⟩ := h
  exact ⟨⟨by show -_ ≤ r.2.1 - r.1.1; omega, by show r.2.1 - r.1.1 ≤ _; omega⟩, by show -_ ≤ r.2.2 - r.1.2; omega, by show r.2.2 - r.1.2 ≤ _; omega⟩
theorem prod_bd {a b A B : Int} (a0 : 0 ≤ a) (a1 : a ≤ A) (b1 : -B ≤ b ∧ b ≤ B) (B0 : 0 ≤ B) : -(A * B) ≤ a * b ∧ a * b ≤ A * B := by
  have h1 := mulL b1.1 a0
  have h2 := mulL b1.2 a0
  have h3 := mulR a1 B0
  rw [Int.mul_neg] at h1
  omega
theorem far_bd {g : Int} {r : Ln} {c : Pt} {k m : Int} (h : BdW g r c) (k0 : 0 ≤ k) (k1 : k ≤ m) (m1 : m ≤ 20000000) : farN g r c k m ≤ 61000000000000000 := by
  have bx := xg_bd h
  have bd := dlt_bd h
  have p1 := prod_bd (a := m) (by omega) m1 bx.1 (by decide)
  have p2 := prod_bd (a := m) (by omega) m1 bx.2 (by decide)
  have p3 := prod_bd (a := k) k0 (Int.le_trans k1 m1) bd.1 (by decide)
  have p4 := prod_bd (a := k) k0 (Int.le_trans k1 m1) bd.2 (by decide)
  unfold farN mxI abI
  split <;> split <;> split <;> omega

section
variable {P : Program} {w : World} {K : PySem.W.Frag} {mg : Str → Option Value} {base : Heap}

theorem okway_from {f : Addr} {fd : FuncData} (F : Fun K "way_from" "way_from" sway_from f fd) (T : Bt mg) (Dstep_of : Def P w K mg base 1 "step_of" ["line"] (spStep K)) :
    FnG P w K mg base CX0 2 f fd ["grain", "line", "corner"] (spFrom K) := by
  refine okG (k := 1) F scway_from (fun vs H Q E h => ?_) (fun cdv A outer s H vs Q E hr h => ?_)
  · obtain ⟨g, v, u, r, c, rfl, _⟩ := h
    rfl
  · obtain ⟨g, v, u, r, c, rfl, hL, hu, hb, q⟩ := h
    refine ⟨_, (pss_cons (ps_asg (pv 2) (pg_tup (by rfl) (pgs_cons (pg_name (i := 3) scway_from.nd rfl (.inl rfl)) (pgs_cons (pg_name (i := 4) scway_from.nd rfl (.inl rfl)) pgs_nil))))
      (pss_one (ps_ret (callD Dstep_of (hr.mono (by decide)) (pa_cons (tupN (pa_cons (tupN (pa_cons (pe_op op_mul (pv 3) (pv 0)) (pa_cons (pe_op op_mul (pv 4) (pv 0)) pa_nil))) (pa_cons (pe_ix ix_tup (pv 1) pe_int (fun _ _ => rfl)) pa_nil))) pa_nil))))), ?_⟩
    obtain ⟨a, rfl, ha⟩ := id hu
    obtain ⟨b, x1, x2, rfl, hS, h1, h2⟩ := id hL
    obtain ⟨g0, g1, r1, r2, cb⟩ := hb
    refine ⟨_, rfl, a, _, rfl, ha, rfl, _, _, rfl, _, _, rfl, rfl, ?_⟩
    refine ⟨_, rfl, _, rfl, _, _, rfl, rfl, .inr (by omega), _, rfl, _, rfl, _, _, rfl, rfl, .inr (by omega), (by show 2 ≤ sizeLine; decide), fun p1 H1 n1 s1 e1 => ⟨_, rfl, b, _, 0, _, rfl, rfl, seT s1 hS, rfl, (by show 2 ≤ sizeLine; decide), fun p2 H2 n2 s2 e2 => ?_⟩⟩
    exact ⟨_, (((c.1 * g, c.2 * g), r.1) : Ln), rfl, ⟨p2, _, _, rfl, .inl (.inl e2), ⟨p1, rfl, .inl (.inl (s2 _ _ e1))⟩, h1.same (s1.trans s2)⟩, fun w H3 s3 e3 => q w H3 ((s1.trans s2).trans s3) e3⟩

end
end Cl

set_option maxHeartbeats 0
namespace Cl
open PySem PySem.Spec PyProof.Rows L2
open GxR (TabB TabG)

/-- a call of a def, its arguments a starred tuple -/
def tStar1 (K : PySem.W.Frag) (sp : Sp) (te : TE) : TE := fun σ H Q => te σ H fun v H1 => ∃ a xs, v = .ref a ∧ SqT K H1 a xs ∧ sp xs H1 Q E0
section
variable {X : Cx} {k : Nat} {ps : List Str} {sp : Sp} {x : Str} {p p2 pos : Pos} {e : Expr} {te : TE}
theorem callDS1 (D : Def X.prog X.w X.K X.mg X.base k x ps sp) (hr : RG k X.A) (ha : PE X e te)
    (hg : Gl X x := by rfl) (hdb : (x == ("__debug__" : Str)) = false := by decide)
    (he : starEach [.Starred e p2] X.env = [(true, eval e X.env)] := by rfl) :
    PE X (.Call (.Name x p) [.Starred e p2] [] pos) (tStar1 X.K sp te) := by
  obtain ⟨f, fd, F, hm, hk, hb⟩ := D.ex
  constructor
  intro pins s σ H Q I h
  refine wpAny_Call_Name_kw (ld_glob I hg hm ?_ hdb)
  refine PySem.W.callWith_S (h₀ := X.base) I.ok.mod.kin hk ?_ he
  refine thn (ha.run pins s σ H _ I h) fun v s1 hz => ?_
  obtain ⟨v0, H1, I1, r, a, xs, rfl, gx, q⟩ := hz
  cases r
  refine star_tup I1 gx fun us s2 I2 rv => ⟨I2.kIn, ?_⟩
  have r2 : Vals (xs ++ []) (us ++ []) := rv.append .nil
  have h2 : sp (xs ++ []) H1 Q E0 := by rw [List.append_nil]; exact q
  have n2 : (us ++ []).length = ps.length := r2.length.symm.trans (F.len _ _ _ _ h2)
  have run := F.run X.A X.stack s2 H1 ⟨us, []⟩ (us ++ []) (xs ++ []) Q E0 hr I2.env0 (hb s2 us I2.kIn n2) r2 h2
  refine wpAny_call (codeAny_mono run fun res s' hq => ?_)
  match res, hq with
  | .error ee, hq => exact pass0 pins σ H1 s2 ee s' I2 hq
  | .ok (.ret u), hq => exact I2.after hq
  | .ok .next, hq => exact hq.elim
  | .ok .brk, hq => exact hq.elim
  | .ok .cont, hq => exact hq.elim
theorem callDS1k {K : PySem.W.Frag} (hK : X.K = K) (D : Def X.prog X.w X.K X.mg X.base k x ps sp) (hr : RG k X.A) (ha : PE X e te)
    (hg : Gl X x := by rfl) (hdb : (x == ("__debug__" : Str)) = false := by decide)
    (he : starEach [.Starred e p2] X.env = [(true, eval e X.env)] := by rfl) :
    PE X (.Call (.Name x p) [.Starred e p2] [] pos) (tStar1 K sp te) := hK ▸ callDS1 D hr ha hg hdb he
end
end Cl

set_option maxHeartbeats 0
namespace Cl
open PySem PySem.Spec PyProof.Rows L2
open GxR (TabB TabG)

/-- how far off a path lies -/
structure Off (g : Int) (r : Ln) (ps : List Pt) (z : Pt) : Prop where
  pos : 0 < z.2
  nn : 0 ≤ z.1
  up : ∀ c ∈ ps, ∀ w, Nst g r c w → w.1 * z.2 ≤ z.1 * w.2
  at_ : z.1 = 0 ∨ ∃ c ∈ ps, ∃ w, Nst g r c w ∧ w.1 * z.2 = z.1 * w.2
theorem le_tr {a b c : Pt} (b0 : 0 < b.2) (a0 : 0 < a.2) (c0 : 0 < c.2) (h1 : a.1 * b.2 ≤ b.1 * a.2) (h2 : b.1 * c.2 ≤ c.1 * b.2) : a.1 * c.2 ≤ c.1 * a.2 := by
  refine canR b0 ?_
  have k1 := mulR h1 (Int.le_of_lt c0)
  have k2 := mulR h2 (Int.le_of_lt a0)
  have e1 : a.1 * c.2 * b.2 = a.1 * b.2 * c.2 := by grind
  have e2 : b.1 * c.2 * a.2 = b.1 * a.2 * c.2 := by grind
  have e3 : c.1 * a.2 * b.2 = c.1 * b.2 * a.2 := by grind
  omega
theorem Off.start (g : Int) (r : Ln) : Off g r [] (0, 1) := ⟨by decide, by decide, (fun _ h => nomatch h), .inl rfl⟩
theorem Off.step {g : Int} {r : Ln} {ps : List Pt} {c z w : Pt} (g0 : 0 < g) (h : Off g r ps z) (hw : Nst g r c w) : Off g r (ps ++ [c]) (later z w) := by
  have zl : z.1 * (later z w).2 ≤ (later z w).1 * z.2 := by unfold later; split <;> omega
  have wl : w.1 * (later z w).2 ≤ (later z w).1 * w.2 := by unfold later; split <;> omega
  have l0 : 0 < (later z w).2 := by unfold later; split; exact hw.pos; exact h.pos
  refine ⟨l0, by unfold later; split; exact hw.nn g0; exact h.nn, fun c' hc' w' hw' => ?_, ?_⟩
  · rcases List.mem_append.mp hc' with hc | hc
    · exact le_tr h.pos hw'.pos l0 (h.up c' hc w' hw') zl
    · rw [List.mem_singleton.mp hc] at hw'
      exact le_tr hw.pos hw'.pos l0 (hw'.le g0 hw) wl
  · unfold later
    split
    · exact .inr ⟨c, by simp, w, hw, rfl⟩
    · rcases h.at_ with e | ⟨c', hc, w', hw', e⟩
      · exact .inl e
      · exact .inr ⟨c', List.mem_append_left _ hc, w', hw', e⟩
theorem Off.le {g : Int} {r : Ln} {ps qs : List Pt} {z w : Pt} (h : Off g r ps z) (h' : Off g r qs w) (s : ∀ c ∈ ps, c ∈ qs) : z.1 * w.2 ≤ w.1 * z.2 := by
  rcases h.at_ with e | ⟨c, hc, v, hv, e⟩
  · rw [e, Int.zero_mul]
    exact Int.mul_nonneg h'.nn (Int.le_of_lt h.pos)
  · have := h'.up c (s c hc) v hv
    exact le_tr hv.pos h.pos h'.pos (by omega) this
theorem Off.one {g : Int} {r : Ln} {ps qs : List Pt} {z w : Pt} (h : Off g r ps z) (h' : Off g r qs w) (s : ∀ c, c ∈ ps ↔ c ∈ qs) : z.1 * w.2 = w.1 * z.2 :=
  Int.le_antisymm (h.le h' fun c hc => (s c).mp hc) (h'.le h fun c hc => (s c).mpr hc)
theorem low_scale {n d t : Int} (ht : 0 < t) : lowN (n * t) (d * t) = lowN n d := by
  unfold lowN
  rw [Int.gcd_mul_right]
  have c : (((Int.gcd n d * t.natAbs : Nat)) : Int) = (Int.gcd n d : Nat) * t := by
    rw [Int.natCast_mul, Int.natAbs_of_nonneg (by omega)]
  rw [c, Int.mul_ediv_mul_of_pos_left _ _ ht, Int.mul_ediv_mul_of_pos_left _ _ ht]
theorem low_eq {z w : Pt} (z0 : 0 < z.2) (w0 : 0 < w.2) (e : z.1 * w.2 = w.1 * z.2) : lowN z.1 z.2 = lowN w.1 w.2 := by
  rw [← low_scale (n := z.1) (d := z.2) w0, ← low_scale (n := w.1) (d := w.2) z0, e, Int.mul_comm z.2]
theorem far_swap (g : Int) (r : Ln) (c : Pt) (k m : Int) : farN g (r.2, r.1) c (m - k) m = farN g r c k m := by
  have e : ∀ a b e' : Int, m * (b - e') + (m - k) * (a - b) = m * (a - e') + k * (b - a) := fun a b e' => by grind
  unfold farN xg dlt
  simp only
  rw [e r.1.1 r.2.1, e r.1.2 r.2.2]
theorem Nst.swap {g : Int} {r : Ln} {c z : Pt} (h : Nst g r c z) : Nst g (r.2, r.1) c z := by
  refine ⟨h.pos, ?_, fun k m k0 k1 m0 => ?_⟩
  · obtain ⟨k, m, k0, k1, m0, e⟩ := h.at_
    exact ⟨m - k, m, by omega, by omega, m0, by rw [far_swap]; exact e⟩
  · have := h.low (m - k) m (by omega) (by omega) m0
    rw [← far_swap, show m - (m - k) = k by omega] at this
    exact this
theorem Nst.move {g : Int} {r : Ln} {c z : Pt} (x y : Int) (h : Nst g r c z) : Nst g ((r.1.1 + g * x, r.1.2 + g * y), (r.2.1 + g * x, r.2.2 + g * y)) (c.1 + x, c.2 + y) z := by
  have e : ∀ k m, farN g ((r.1.1 + g * x, r.1.2 + g * y), (r.2.1 + g * x, r.2.2 + g * y)) (c.1 + x, c.2 + y) k m = farN g r c k m := fun k m => by
    unfold farN xg dlt
    simp only
    have e1 : r.1.1 + g * x - (c.1 + x) * g = r.1.1 - c.1 * g := by grind
    have e2 : r.1.2 + g * y - (c.2 + y) * g = r.1.2 - c.2 * g := by grind
    have e3 : ∀ a b : Int, a + g * x - (b + g * x) = a - b := fun a b => by omega
    have e4 : ∀ a b : Int, a + g * y - (b + g * y) = a - b := fun a b => by omega
    rw [e1, e2, e3, e4]
  refine ⟨h.pos, ?_, fun k m k0 k1 m0 => by rw [e]; exact h.low k m k0 k1 m0⟩
  obtain ⟨k, m, k0, k1, m0, z⟩ := h.at_
  exact ⟨k, m, k0, k1, m0, by rw [e]; exact z⟩
theorem Off.swap {g : Int} {r : Ln} {ps : List Pt} {z : Pt} (h : Off g r ps z) : Off g (r.2, r.1) ps z := by
  refine ⟨h.pos, h.nn, fun c hc w hw => h.up c hc w hw.swap, ?_⟩
  rcases h.at_ with e | ⟨c, hc, w, hw, e⟩
  · exact .inl e
  · exact .inr ⟨c, hc, w, hw.swap, e⟩
theorem Off.move {g : Int} {r : Ln} {ps : List Pt} {z : Pt} (x y : Int) (h : Off g r ps z) : Off g ((r.1.1 + g * x, r.1.2 + g * y), (r.2.1 + g * x, r.2.2 + g * y)) (ps.map fun c => (c.1 + x, c.2 + y)) z := by
  refine ⟨h.pos, h.nn, fun c hc w hw => ?_, ?_⟩
  · obtain ⟨c, hc', rfl⟩ := List.mem_map.mp hc
    refine h.up c hc' w ?_
    have := hw.move (-x) (-y)
    simp only [Int.mul_neg, Int.add_neg_cancel_right] at this
    exact this
  · rcases h.at_ with e | ⟨c, hc, w, hw, e⟩
    · exact .inl e
    · exact .inr ⟨_, List.mem_map.mpr ⟨c, hc, rfl⟩, w, hw.move x y, e⟩
/-- a path each of whose corners has a point of the line within half a cell -/
theorem Off.half {g : Int} {r : Ln} {ps : List Pt} {z : Pt} (g0 : 0 < g) (h : Off g r ps z) (near : ∀ c ∈ ps, ∃ k m, 0 ≤ k ∧ k ≤ m ∧ 0 < m ∧ 2 * farN g r c k m ≤ m * g) : 2 * z.1 ≤ z.2 := by
  have p := h.pos
  rcases h.at_ with e | ⟨c, hc, w, hw, e⟩
  · omega
  · obtain ⟨k, m, k0, k1, m0, f⟩ := near c hc
    have h1 := hw.low k m k0 k1 m0
    have mg := Int.mul_pos m0 g0
    have h2 := mulR f (Int.le_of_lt hw.pos)
    have h3 : 2 * w.1 ≤ w.2 := canR mg (by
      have e1 : 2 * w.1 * (m * g) = 2 * (w.1 * (m * g)) := by grind
      have e2 : 2 * farN g r c k m * w.2 = 2 * (farN g r c k m * w.2) := by grind
      have e3 : w.2 * (m * g) = m * g * w.2 := Int.mul_comm _ _
      omega)
    refine canR hw.pos ?_
    have h4 := mulR h3 (Int.le_of_lt p)
    have e1 : 2 * z.1 * w.2 = 2 * (w.1 * z.2) := by rw [e]; grind
    have e2 : 2 * w.1 * z.2 = 2 * (w.1 * z.2) := by grind
    have e3 : z.2 * w.2 = w.2 * z.2 := Int.mul_comm _ _
    omega
def spOffOf (K : PySem.W.Frag) : Sp := fun vs H Q _ => ∃ g v u r ps, vs = [.int g, v, u] ∧ AtL K H v r ∧ AtP K H u ps ∧ (0 < g ∧ ∀ c ∈ ps, BdW g r c) ∧ ∀ w H' z, Same H H' → Off g r ps z → ShB z → At2 K H' w (lowN z.1 z.2) → Q w H'

section
variable {P : Program} {w : World} {K : PySem.W.Frag} {mg : Str → Option Value} {base : Heap}

theorem okoff_of {f : Addr} {fd : FuncData} (F : Fun K "off_of" "off_of" soff_of f fd) (T : Bt mg) (Dnearest_share : Def P w K mg base 4 "nearest_share" ["grain", "line", "corner"] (spNearS K)) (Dway_off : Def P w K mg base 3 "way_off" ["grain", "line", "corner", "share"] (spWayOff K)) (Dgreater_of : Def P w K mg base 2 "greater_of" ["one", "other"] (spLater K later)) (Dlowest : Def P w K mg base 2 "lowest" ["n", "d"] (spLowG K)) :
    FnG P w K mg base CX0 5 f fd ["grain", "line", "path"] (spOffOf K) := by
  refine okG (k := 4) F scoff_of (fun vs H Q E h => ?_) (fun cdv A outer s H vs Q E hr h => ?_)
  · obtain ⟨g, v, u, r, ps, rfl, _⟩ := h
    rfl
  · obtain ⟨g, v, u, r, ps, rfl, hL, hu, hb, q⟩ := h
    refine ⟨_, (pss_cons (ps_set (i := 3) scoff_of.nd rfl (.inl rfl) (tupN (pa_cons pe_int (pa_cons pe_int pa_nil))))
      (pss_cons (ps_for PassesOwn.never rfl (pi_tup (pv 2)) (pg_name (i := 4) scoff_of.nd rfl (.inl rfl)) (pss_one (ps_set (i := 3) scoff_of.nd rfl (.inl rfl) (callD Dgreater_of (hr.mono (by decide)) (pa_cons (pv 3) (pa_cons (callD Dway_off (hr.mono (by decide)) (pa_cons (pv 0) (pa_cons (pv 1) (pa_cons (pv 4) (pa_cons (callD Dnearest_share (hr.mono (by decide)) (pa_cons (pv 0) (pa_cons (pv 1) (pa_cons (pv 4) pa_nil)))) pa_nil))))) pa_nil))))))
      (pss_one (ps_ret (callDS1 Dlowest (hr.mono (by decide)) (pv 3)))))), ?_⟩
    obtain ⟨a, vs, rfl, hS, hall⟩ := id hu
    refine ⟨(by show 2 ≤ sizeLine; decide), fun p1 H1 n1 s1 e1 => ?_⟩
    refine ⟨_, rfl, a, rfl, ⟨_, seT s1 hS⟩, for_tup (K := K) (a := a) (xs := vs) (fun i σ H' => ∃ b y4 z, σ = [some (.int g), some v, some (.ref a), some b, y4] ∧ Same H H' ∧ At2 K H' b z ∧ Off g r (ps.take i) z ∧ ShB z) ?_ (fun i σ H' _ z => ?_) (fun i x σ H' hx z => ?_) (fun σ H' z => ?_)⟩
    · exact ⟨_, _, (0, 1), rfl, s1, ⟨p1, rfl, .inl (.inl e1)⟩, Off.start g r, by decide, by decide, by decide, by decide⟩
    · obtain ⟨_, _, _, _, sH, _⟩ := z
      exact seT sH hS
    · obtain ⟨b, y4, z, rfl, sH, hz, hO, hB⟩ := z
      obtain ⟨c, hc, hxc⟩ := hall.get hx
      have bw := hb.2 c (List.mem_of_getElem? hc)
      refine ⟨_, rfl, _, rfl, _, rfl, _, rfl, _, rfl, _, rfl, _, rfl, g, v, x, r, c, rfl, hL.same sH, hxc.same sH, bw, fun w1 H2 s2 e2 ok nst => ?_⟩
      have sA := sH.trans s2
      refine ⟨g, v, x, w1, r, c, nearS g r c, rfl, hL.same sA, hxc.same sA, e2, bw, ok, fun w2 H3 s3 e3 b3 => ⟨b, w2, z, _, rfl, hz.same (s2.trans s3), e3, hB, b3, fun w3 e4 => ?_⟩⟩
      refine ⟨_, _, _, rfl, sA.trans s3, e4, ?_, later_ShB hB b3⟩
      rw [List.take_add_one, hc]
      exact hO.step hb.1 nst
    · obtain ⟨b, y4, z, rfl, sH, hz, hO, hB⟩ := z
      rw [hall.length, List.take_length] at hO
      obtain ⟨bb, rfl, hbb⟩ := id hz
      exact ⟨_, rfl, bb, _, rfl, hbb, z.1, z.2, rfl, hO.pos, by have := hB.2.2.2; omega, fun w H2 s2 e2 => q w H2 z (sH.trans s2) hO hB e2⟩

end
end Cl

set_option maxHeartbeats 0
namespace Cl
open PySem PySem.Spec PyProof.Rows L2
open GxR (TabB TabG)

/-- the law's own shares -/
def addQ (q t : Int × Int) : List Pt := if t.2 < q.2 ∧ (0 ≤ t.1 - q.1 ∧ t.1 - q.1 ≤ q.2 - t.2) then [(t.1 - q.1, q.2 - t.2)] else []
def lawS (R : List (Int × Int)) : List Pt := (0, 1) :: (1, 1) :: R.flatMap fun q => R.flatMap (addQ q)
theorem cov_lawS (g : Int) (r : Ln) (c : Pt) : Cov g r c (lawS (rows4 g r c)) := fun k m k0 k1 m0 => by
  rcases (top4 g r c).least k0 k1 m0 with ⟨e, he, h⟩ | ⟨q, hq, t, ht, B0, A0, A1, h, best⟩
  · refine ⟨(e, 1), ?_, (by show (0 : Int) < 1; decide), by show farN g r c e 1 * m ≤ farN g r c k m * 1; omega⟩
    rcases he with rfl | rfl
    · exact List.mem_cons_self
    · unfold lawS; simp
  · refine ⟨(t.1 - q.1, q.2 - t.2), ?_, B0, h⟩
    refine List.mem_cons_of_mem _ (List.mem_cons_of_mem _ (List.mem_flatMap.mpr ⟨q, hq, List.mem_flatMap.mpr ⟨t, ht, ?_⟩⟩))
    unfold addQ
    rw [if_pos ⟨by omega, A0, A1⟩]
    exact List.mem_cons_self
theorem rows4_bd {g : Int} {r : Ln} {c : Pt} (h : BdW g r c) : ∀ q ∈ rows4 g r c, (-3003000000 ≤ q.1 ∧ q.1 ≤ 3003000000) ∧ -6000000 ≤ q.2 ∧ q.2 ≤ 6000000 := fun q hq => by
  obtain ⟨⟨x1, x2⟩, x3, x4⟩ := xg_bd h
  obtain ⟨⟨d1, d2⟩, d3, d4⟩ := dlt_bd h
  unfold rows4 at hq
  simp only [List.mem_cons, List.not_mem_nil, or_false] at hq
  rcases hq with rfl | rfl | rfl | rfl
  · exact ⟨⟨x1, x2⟩, d1, d2⟩
  · exact ⟨⟨by show _ ≤ 0 - (xg g r c).1; omega, by show 0 - (xg g r c).1 ≤ _; omega⟩, by show _ ≤ 0 - (dlt r).1; omega, by show 0 - (dlt r).1 ≤ _; omega⟩
  · exact ⟨⟨x3, x4⟩, d3, d4⟩
  · exact ⟨⟨by show _ ≤ 0 - (xg g r c).2; omega, by show 0 - (xg g r c).2 ≤ _; omega⟩, by show _ ≤ 0 - (dlt r).2; omega, by show 0 - (dlt r).2 ≤ _; omega⟩
theorem lawS_ok {g : Int} {r : Ln} {c : Pt} (h : BdW g r c) : ∀ s ∈ lawS (rows4 g r c), okK s.1 s.2 := fun s hs => by
  unfold lawS at hs
  rcases List.mem_cons.mp hs with rfl | hs
  · exact ⟨by decide, by decide, by decide, by decide⟩
  · rcases List.mem_cons.mp hs with rfl | hs
    · exact ⟨by decide, by decide, by decide, by decide⟩
    · obtain ⟨q, hq, hs⟩ := List.mem_flatMap.mp hs
      obtain ⟨t, ht, hs⟩ := List.mem_flatMap.mp hs
      unfold addQ at hs
      split at hs
      · rename_i cnd
        rw [List.mem_singleton.mp hs]
        have h1 := rows4_bd h q hq
        have h2 := rows4_bd h t ht
        exact ⟨cnd.2.1, cnd.2.2, by show 0 < q.2 - t.2; omega, by show q.2 - t.2 ≤ _; omega⟩
      · cases hs
def spFar24 (K : PySem.W.Frag) : Sp := fun vs H Q _ => ∃ g v u r c, vs = [.int g, v, u] ∧ AtL K H v r ∧ At2 K H u c ∧ BdW g r c ∧ ∀ w H' z, Same H H' → At2 K H' w z → Nst g r c z → ShB z → Q w H'

section
variable {P : Program} {w : World} {K : PySem.W.Frag} {mg : Str → Option Value} {base : Heap}

theorem ok_law_far {f : Addr} {fd : FuncData} (F : Fun K "_law_far" "_law_far" s_law_far f fd) (T : Bt mg) :
    FnG P w K mg base CX0 1 f fd ["_law_grain_here", "_law_line_here", "_law_corner"] (spFar24 K) := by
  refine okG (k := 0) F sc_law_far (fun vs H Q E h => ?_) (fun cdv A outer s H vs Q E hr h => ?_)
  · obtain ⟨g, v, u, r, c, rfl, _⟩ := h
    rfl
  · obtain ⟨g, v, u, r, c, rfl, hL, hu, hb, q⟩ := h
    refine ⟨_, (pss_cons (ps_set (i := 3) sc_law_far.nd rfl (.inl rfl) (lstN pa_nil))
      (pss_cons (ps_for PassesOwn.never rfl (pi_tup (tupN (pa_cons pe_int (pa_cons pe_int pa_nil)))) (pg_name (i := 4) sc_law_far.nd rfl (.inl rfl)) (pss_cons (ps_set (i := 5) sc_law_far.nd rfl (.inl rfl) (pe_op op_sub (pe_ix ix_tup (pe_ix ix_tup (pv 1) pe_int (fun _ _ => rfl)) (pv 4) (fun _ _ => rfl)) (pe_op op_mul (pv 0) (pe_ix ix_tup (pv 2) (pv 4) (fun _ _ => rfl)))))
      (pss_cons (ps_set (i := 6) sc_law_far.nd rfl (.inl rfl) (pe_op op_sub (pe_ix ix_tup (pe_ix ix_tup (pv 1) pe_int (fun _ _ => rfl)) (pv 4) (fun _ _ => rfl)) (pe_ix ix_tup (pe_ix ix_tup (pv 1) pe_int (fun _ _ => rfl)) (pv 4) (fun _ _ => rfl))))
      (pss_one (ps_set (i := 3) sc_law_far.nd rfl (.inl rfl) (pe_op op_catLN (pv 3) (lstN (pa_cons (tupN (pa_cons (pv 5) (pa_cons (pv 6) pa_nil))) (pa_cons (tupN (pa_cons (pe_op op_sub pe_int (pv 5)) (pa_cons (pe_op op_sub pe_int (pv 6)) pa_nil))) pa_nil)))))))))
      (pss_cons (ps_set (i := 7) sc_law_far.nd rfl (.inl rfl) (lstN (pa_cons (tupN (pa_cons pe_int (pa_cons pe_int pa_nil))) (pa_cons (tupN (pa_cons pe_int (pa_cons pe_int pa_nil))) pa_nil))))
      (pss_cons (ps_for PassesOwn.never rfl (pi_list (pv 3)) (pg_tup (by rfl) (pgs_cons (pg_name (i := 5) sc_law_far.nd rfl (.inl rfl)) (pgs_cons (pg_name (i := 6) sc_law_far.nd rfl (.inl rfl)) pgs_nil))) (pss_one (ps_for PassesOwn.never rfl (pi_list (pv 3)) (pg_tup (by rfl) (pgs_cons (pg_name (i := 8) sc_law_far.nd rfl (.inl rfl)) (pgs_cons (pg_name (i := 9) sc_law_far.nd rfl (.inl rfl)) pgs_nil))) (pss_one (ps_if (PW.pt (pw_and (pt_cmpR op_gt (pv 6) (pv 9) (nomark _)) (pw_and1 (pt_chain op_le op_le pe_int (pe_op op_sub (pv 8) (pv 5)) (pe_op op_sub (pv 6) (pv 9)))))) (pss_one (ps_expr (pe_bm PySem.F.plainAttrs_list PySem.F.slot_list_append PySem.F.type_list_append mt_append (pv 7) (pa_cons (tupN (pa_cons (pe_op op_sub (pv 8) (pv 5)) (pa_cons (pe_op op_sub (pv 6) (pv 9)) pa_nil))) pa_nil)))) pss_nil)))))
      (pss_cons (ps_set (i := 10) sc_law_far.nd rfl (.inl rfl) pe_non)
      (pss_cons (ps_for PassesOwn.never rfl (pi_list (pv 7)) (pg_tup (by rfl) (pgs_cons (pg_name (i := 11) sc_law_far.nd rfl (.inr rfl)) (pgs_cons (pg_name (i := 12) sc_law_far.nd rfl (.inr rfl)) pgs_nil))) (pss_cons (ps_set (i := 13) sc_law_far.nd rfl (.inl rfl) (pe_callB (cr_max rfl) (by rfl) T.max (by decide +kernel) (pa_cons (pe_lc (own := [("_law_begin", 5), ("_law_step", 6)]) (g := gTup K 2 (gCons (gName 5) (gCons (gName 6) gNil))) (tt := tYes) (by rfl) sc_law_far.nd (pi_list (pv 3)) (blkOk_by (own := [("_law_begin", 5), ("_law_step", 6)]) (N := ["_law_grain_here", "_law_line_here", "_law_corner", "_law_rows", "_law_axis", "_law_begin", "_law_step", "_law_shares", "_law_other", "_law_way", "_law_least", "_law_k", "_law_m", "_law_far_here"]) (sc := defScope s_law_far) (by decide +kernel)) (fun _ _ _ _ _ => (pg_tup (by rfl) (pgs_cons (pg_name (i := 5) sc_law_far.nd rfl (.inl rfl)) (pgs_cons (pg_name (i := 6) sc_law_far.nd rfl (.inl rfl)) pgs_nil)))) (fun _ _ _ _ _ => pts_nil) (fun _ _ _ _ _ => (pe_op op_add (pe_op op_mul (pv 5) (pv 12)) (pe_op op_mul (pv 6) (pv 11))))) pa_nil)))
      (pss_one (ps_if (PW.pt (pw_or (pt_cmpR op_isN (pv 10) pe_non (nomark _)) (pw_or1 (pt_cmpR op_lt (pe_op op_mul (pv 13) (pe_ix ix_tup (pv 10) pe_int (fun _ _ => rfl))) (pe_op op_mul (pe_ix ix_tup (pv 10) pe_int (fun _ _ => rfl)) (pv 12)) (nomark _))))) (pss_one (ps_set (i := 10) sc_law_far.nd rfl (.inl rfl) (tupN (pa_cons (pv 13) (pa_cons (pv 12) pa_nil))))) pss_nil))))
      (pss_one (ps_ret (tupN (pa_cons (pe_ix ix_tup (pv 10) pe_int (fun _ _ => rfl)) (pa_cons (pe_op op_mul (pe_ix ix_tup (pv 10) pe_int (fun _ _ => rfl)) (pv 0)) pa_nil))))))))))), ?_⟩
    obtain ⟨aL, x1, x2, rfl, hS, ⟨b1, rfl, h1⟩, ⟨b2, rfl, h2⟩⟩ := id hL
    obtain ⟨ac, rfl, hc⟩ := id hu
    obtain ⟨g0, g1, r1, r2, cb⟩ := id hb
    refine ⟨Nat.zero_le _, fun pR H1 n1 s1 e1 => ?_⟩
    refine ⟨(by show 2 ≤ sizeLine; decide), fun p2 H2 n2 s2 e2 => ⟨p2, rfl, ⟨_, .inl (.inl e2)⟩, for_tup (K := K) (a := p2) (xs := [.int 0, .int 1]) (fun i σ H' => ∃ pr ws y4 y5 y6, σ = [some (.int g), some (.ref aL), some (.ref ac), some (.ref pr), y4, y5, y6, none, none, none, none, none, none, none] ∧ Same H H' ∧ H' p2 = some (.tup [.int 0, .int 1]) ∧ H' pr = some (.lst ws) ∧ AllAt (At2 K H') ws ((rows4 g r c).take (2 * i)) ∧ i ≤ 2) ?_ (fun i σ H' _ z => ?_) (fun i x σ H' hx z => ?_) (fun σ H' z => ?_)⟩⟩
    · exact ⟨pR, [], _, _, _, rfl, s1.trans s2, e2, s2 _ _ e1, .nil, by decide⟩
    · obtain ⟨_, _, _, _, _, _, _, k, _⟩ := z
      exact .inl (.inl k)
    · obtain ⟨pr, ws, y4, y5, y6, rfl, sH, k2, kr, all, i2⟩ := z
      obtain ⟨u0, u1, cc, rfl, a0, a1, a2, hr, i3⟩ : ∃ u0 u1 cc : Int, x = .int (i : Nat) ∧ atI [V.int r.1.1, .int r.1.2] (i : Nat) = some (.int u0) ∧ atI [V.int r.2.1, .int r.2.2] (i : Nat) = some (.int u1) ∧ atI [V.int c.1, .int c.2] (i : Nat) = some (.int cc) ∧ (rows4 g r c).take (2 * (i + 1)) = (rows4 g r c).take (2 * i) ++ [(u0 - g * cc, u1 - u0), (0 - (u0 - g * cc), 0 - (u1 - u0))] ∧ i + 1 ≤ 2 := by
        match i, hx with
        | 0, hx => cases hx; exact ⟨r.1.1, r.2.1, c.1, rfl, rfl, rfl, rfl, by rw [Int.mul_comm g]; rfl, by decide⟩
        | 1, hx => cases hx; exact ⟨r.1.2, r.2.2, c.2, rfl, rfl, rfl, rfl, by rw [Int.mul_comm g]; rfl, by decide⟩
        | n + 2, hx => simp at hx
      have hS' := seT sH hS
      have h1' := seT sH h1
      have h2' := seT sH h2
      refine ⟨_, rfl, aL, _, 0, _, rfl, rfl, hS', rfl, _, rfl, b1, _, _, _, rfl, rfl, h1', a0, _, rfl, _, rfl, _, rfl, ac, _, _, _, rfl, rfl, seT sH hc, a2, _, _, rfl, rfl, .inl (by omega), _, _, rfl, rfl, ?_⟩
      refine ⟨_, rfl, aL, _, 1, _, rfl, rfl, hS', rfl, _, rfl, b2, _, _, _, rfl, rfl, h2', a1, _, rfl, aL, _, 0, _, rfl, rfl, hS', rfl, _, rfl, b1, _, _, _, rfl, rfl, h1', a0, _, _, rfl, rfl, ?_⟩
      refine ⟨_, rfl, _, rfl, _, rfl, (by show 2 ≤ sizeLine; decide), fun p3 H3 n3 s3 e3 => ⟨_, rfl, _, _, rfl, rfl, _, rfl, _, _, rfl, rfl, (by show 2 ≤ sizeLine; decide), fun p4 H4 n4 s4 e4 => ⟨(by show 2 ≤ sizeLine; decide), fun p5 H5 n5 s5 e5 => ?_⟩⟩⟩
      have sx := (s3.trans s4).trans s5
      have lw := all.length
      refine ⟨pr, p5, ws, _, rfl, rfl, sx _ _ kr, e5, ?_, fun p6 H6 n6 s6 e6 => ?_⟩
      · rw [lw, List.length_take, sizeLine_eq]
        show min (2 * i) 4 + 2 ≤ _
        omega
      rw [hr]
      exact ⟨p6, _, _, _, _, rfl, sH.trans (sx.trans s6), (sx.trans s6) _ _ k2, e6, (all.map fun _ _ z => z.same (sx.trans s6)).app (.cons ⟨p3, rfl, .inl (.inl ((s4.trans (s5.trans s6)) _ _ e3))⟩ (.cons ⟨p4, rfl, .inl (.inl ((s5.trans s6) _ _ e4))⟩ .nil)), i3⟩
    · obtain ⟨pr, ws, y4, y5, y6, rfl, sH, k2, kr, all, i2⟩ := z
      have allR : AllAt (At2 K H') ws (rows4 g r c) := all
      have bR := rows4_bd hb
      clear all k2 e2 n2 n1 s1 s2
      obtain ⟨R, eR⟩ : ∃ R, R = rows4 g r c := ⟨_, rfl⟩
      have lR : R.length = 4 := by rw [eR]; rfl
      have hcov := cov_lawS g r c
      have hokS := lawS_ok hb
      have htop := top4 g r c
      rw [← eR] at allR bR hcov hokS htop
      refine ⟨(by show 2 ≤ sizeLine; decide), fun p3 H3 n3 s3 e3 => ⟨(by show 2 ≤ sizeLine; decide), fun p4 H4 n4 s4 e4 => ⟨(by show 2 ≤ sizeLine; decide), fun pS H5 nS s5 e5 => ?_⟩⟩⟩
      have kr4 := (s3.trans s4) _ _ kr
      have R4 : AllAt (At2 K H4) ws R := allR.map fun _ _ z => z.same (s3.trans s4)
      have lws := R4.length
      have la : ∀ q t, (addQ q t).length ≤ 1 := fun q t => by unfold addQ; split <;> simp
      have lf : ∀ {α : Type} (f : α → List Pt) (n : Nat) (L : List α), (∀ x, (f x).length ≤ n) → (L.flatMap f).length ≤ n * L.length := fun f n L h => by
        induction L with
        | nil => simp
        | cons x L ih =>
          have := h x
          rw [List.flatMap_cons, List.length_append, List.length_cons, Nat.mul_add]
          omega
      refine ⟨_, rfl, pr, rfl, ⟨ws, .inl (.inl (s5 _ _ kr4))⟩, for_list (K := K) (a := pr) (xs := ws) (fun i σ H' => ∃ y5 y6 y8 y9 us, σ = [some (.int g), some (.ref aL), some (.ref ac), some (.ref pr), y4, y5, y6, some (.ref pS), y8, y9, none, none, none, none] ∧ Same H4 H' ∧ H' pS = some (.lst us) ∧ AllAt (At2 K H') us ((0, 1) :: (1, 1) :: (R.take i).flatMap fun q => R.flatMap (addQ q))) ?_ (fun i σ H' _ z => ?_) (fun i x σ H' hx z => ?_) (fun σ H' z => ?_)⟩
      · exact ⟨_, _, _, _, [.ref p3, .ref p4], rfl, s5, e5, .cons ⟨p3, rfl, .inl (.inl (s5 _ _ (s4 _ _ e3)))⟩ (.cons ⟨p4, rfl, .inl (.inl (s5 _ _ e4))⟩ .nil)⟩
      · obtain ⟨_, _, _, _, _, _, sH, _⟩ := z
        exact .inl (.inl (sH _ _ kr4))
      · obtain ⟨y5, y6, y8, y9, us, rfl, sI, kS, allS⟩ := z
        obtain ⟨q, hq, hxq⟩ := R4.get hx
        obtain ⟨b, rfl, hbq⟩ := hxq.same sI
        refine ⟨b, _, rfl, hbq, rfl, _, _, rfl, _, _, rfl, rfl, ?_⟩
        rw [List.take_add_one, hq, Option.toList_some, List.flatMap_append, List.flatMap_singleton]
        refine ⟨_, rfl, pr, rfl, ⟨ws, .inl (.inl (sI _ _ kr4))⟩, for_list (K := K) (a := pr) (xs := ws) (fun j σ H' => ∃ y8 y9 us, σ = [some (.int g), some (.ref aL), some (.ref ac), some (.ref pr), y4, some (.int q.1), some (.int q.2), some (.ref pS), y8, y9, none, none, none, none] ∧ Same H4 H' ∧ H' pS = some (.lst us) ∧ AllAt (At2 K H') us ((0, 1) :: (1, 1) :: (((R.take i).flatMap fun q => R.flatMap (addQ q)) ++ (R.take j).flatMap (addQ q)))) ?_ (fun j σ H' _ z => ?_) (fun j x σ H' hx z => ?_) (fun σ H' z => ?_)⟩
        · exact ⟨_, _, us, rfl, sI, kS, by rw [List.take_zero, List.flatMap_nil, List.append_nil]; exact allS⟩
        · obtain ⟨_, _, _, _, sH, _⟩ := z
          exact .inl (.inl (sH _ _ kr4))
        · obtain ⟨y8, y9, us, rfl, sJ, kS, allS⟩ := z
          obtain ⟨t, ht, hxt⟩ := R4.get hx
          obtain ⟨b, rfl, hbt⟩ := hxt.same sJ
          refine ⟨b, _, rfl, hbt, rfl, _, _, rfl, _, _, rfl, rfl, ?_⟩
          rw [List.take_add_one, ht, Option.toList_some, List.flatMap_append, List.flatMap_singleton, ← List.append_assoc]
          have none : addQ q t = [] → ∃ y8' y9' us', [some (V.int g), some (.ref aL), some (.ref ac), some (.ref pr), y4, some (.int q.1), some (.int q.2), some (.ref pS), some (.int t.1), some (.int t.2), none, none, none, none] = [some (.int g), some (.ref aL), some (.ref ac), some (.ref pr), y4, some (.int q.1), some (.int q.2), some (.ref pS), y8', y9', none, none, none, none] ∧ Same H4 H' ∧ H' pS = some (.lst us') ∧ AllAt (At2 K H') us' ((0, 1) :: (1, 1) :: ((((R.take i).flatMap fun q => R.flatMap (addQ q)) ++ (R.take j).flatMap (addQ q)) ++ addQ q t)) := fun h => by
            rw [h, List.append_nil]
            exact ⟨_, _, us, rfl, sJ, kS, allS⟩
          refine ⟨_, rfl, _, rfl, _, _, rfl, rfl, _, rfl, ite2 (fun c1 => ⟨_, rfl, _, rfl, _, _, rfl, rfl, _, _, rfl, rfl, _, rfl, ite2 (fun c2 => ⟨_, rfl, _, rfl, _, _, rfl, rfl, _, _, rfl, rfl, _, rfl, ite2 (fun c3 => ?_) (fun c3 => ?_)⟩) (fun c2 => ?_)⟩) (fun c1 => ?_)⟩
          · have c1 : t.2 < q.2 := of_decide_eq_true c1
            have c2 : 0 ≤ t.1 - q.1 := of_decide_eq_true c2
            have c3 : t.1 - q.1 ≤ q.2 - t.2 := of_decide_eq_true c3
            have et : addQ q t = [(t.1 - q.1, q.2 - t.2)] := if_pos ⟨c1, c2, c3⟩
            have lu := allS.length
            refine ⟨_, rfl, .inl ⟨rfl, _, .inl (.inl kS)⟩, _, rfl, _, rfl, _, _, rfl, rfl, _, rfl, _, rfl, _, _, rfl, rfl, (by show 2 ≤ sizeLine; decide), fun p6 H6 n6 s6 e6 => ⟨pS, us, _, rfl, rfl, s6 _ _ kS, ?_, ?_⟩⟩
            · have l1 := lf (fun q => R.flatMap (addQ q)) 4 (R.take i) fun q => by
                have := lf (addQ q) 1 R (la q)
                omega
              have l2 := lf (addQ q) 1 (R.take j) (la q)
              have l3 : (R.take i).length ≤ 4 := by rw [List.length_take]; omega
              have l4 : (R.take j).length ≤ 4 := by rw [List.length_take]; omega
              rw [lu, sizeLine_eq, List.length_cons, List.length_cons, List.length_append]
              omega
            · have kS6 := s6 _ _ kS
              rw [et]
              exact ⟨_, _, us ++ [.ref p6], rfl, (sJ.trans s6).upN nS, upd_same, (allS.map fun _ _ z => At2U (z.same s6) kS6).app (.cons (At2U ⟨p6, rfl, .inl (.inl e6)⟩ kS6) .nil)⟩
          · exact none (if_neg fun y => c3 (decide_eq_true y.2.2))
          · exact ⟨_, rfl, iteF (none (if_neg fun y => c2 (decide_eq_true y.2.1)))⟩
          · exact iteF (none (if_neg fun y => c1 (decide_eq_true y.1)))
        · obtain ⟨y8, y9, us, rfl, sJ, kS, allS⟩ := z
          rw [lws, List.take_length] at allS
          exact ⟨_, _, _, _, us, rfl, sJ, kS, allS⟩
      · obtain ⟨y5, y6, y8, y9, us, rfl, sI, kS, allS⟩ := z
        rw [lws, List.take_length] at allS
        have allS : AllAt (At2 K H') us (lawS R) := allS
        obtain ⟨S, eS⟩ : ∃ S, S = lawS R := ⟨_, rfl⟩
        have hS0 : S = (0, 1) :: S.tail := by rw [eS]; rfl
        have lS : S.length ≤ 18 := by
          rw [eS]
          have l1 := lf (fun q => R.flatMap (addQ q)) 4 R fun q => by
            have := lf (addQ q) 1 R (la q)
            omega
          show (R.flatMap fun q => R.flatMap (addQ q)).length + 1 + 1 ≤ 18
          omega
        rw [← eS] at allS hokS hcov
        have lus := allS.length
        have sI4 := sI
        have g4 : Same H H' := ((sH.trans s3).trans s4).trans sI
        have krI := sI _ _ kr4
        have RI : AllAt (At2 K H') ws R := R4.map fun _ _ z => z.same sI
        clear sI e5 s5 nS
        refine ⟨_, rfl, pS, rfl, ⟨us, .inl (.inl kS)⟩, for_list (K := K) (a := pS) (xs := us) (fun i σ H'' => ∃ y5 y6 y11 y12 y13 b, σ = [some (.int g), some (.ref aL), some (.ref ac), some (.ref pr), y4, y5, y6, some (.ref pS), y8, y9, some b, y11, y12, y13] ∧ Same H' H'' ∧ ((i = 0 ∧ b = .non) ∨ (0 < i ∧ At2 K H'' b (farN g r c ((S.tail.take (i - 1)).foldl (pick g r c) (0, 1)).1 ((S.tail.take (i - 1)).foldl (pick g r c) (0, 1)).2, ((S.tail.take (i - 1)).foldl (pick g r c) (0, 1)).2) ∧ okK ((S.tail.take (i - 1)).foldl (pick g r c) (0, 1)).1 ((S.tail.take (i - 1)).foldl (pick g r c) (0, 1)).2))) ?_ (fun i σ H'' _ z => ?_) (fun i x σ H'' hx z => ?_) (fun σ H'' z => ?_)⟩
        · exact ⟨_, _, _, _, _, _, rfl, .refl _, .inl ⟨rfl, rfl⟩⟩
        · obtain ⟨_, _, _, _, _, _, _, sJ, _⟩ := z
          exact .inl (.inl (sJ _ _ kS))
        · obtain ⟨y5, y6, y11, y12, y13, b, rfl, sJ, hb'⟩ := z
          obtain ⟨s0, hs, hxs⟩ := allS.get hx
          have ok := hokS s0 (List.mem_of_getElem? hs)
          have fb := far_bd hb ok.1 ok.2.1 ok.2.2.2
          have fn := far_nn g r c s0.1 s0.2
          obtain ⟨bb, rfl, hbb⟩ := hxs.same sJ
          refine ⟨bb, _, rfl, hbb, rfl, _, _, rfl, _, _, rfl, rfl, ?_⟩
          refine ⟨_, rfl, pr, rfl, ⟨ws, .inl (.inl (sJ _ _ krI))⟩, fun D nD => ?_⟩
          refine lcL (K := K) (a := pr) (xs := ws) (fun i H3 => Same H'' H3 ∧ H3 D = some (.lst (((R.take i).map fun q => rv q s0.1 s0.2).map V.int)) ∧ i ≤ 4) nD (fun H3 e1 e2 => ⟨e1, e2, by decide⟩) (fun i H3 _ z => .inl (.inl ((sJ.trans z.1) _ _ krI))) (fun i x H3 hx z => ?_) (fun H3 z => ?_)
          · obtain ⟨sK, kD, i4⟩ := z
            have hi : i < ws.length := (List.getElem?_eq_some_iff.mp hx).1
            obtain ⟨q, hq, hxq⟩ := RI.get hx
            obtain ⟨b3, rfl, hb3⟩ := hxq.same (sJ.trans sK)
            have bq := bR q (List.mem_of_getElem? hq)
            obtain ⟨ok0, ok1, ok2, ok3⟩ := ok
            refine ⟨b3, _, rfl, hb3, rfl, _, _, rfl, _, _, rfl, rfl, ?_⟩
            refine ⟨rfl, _, rfl, _, rfl, _, _, rfl, rfl, .inr (by omega), _, rfl, _, rfl, _, _, rfl, rfl, .inr (by omega), _, _, rfl, rfl, _, kD, ?_, sK.upN nD, ?_, by omega⟩
            · rw [List.length_map, List.length_map, List.length_take, sizeLine_eq]; omega
            · rw [upd_same, List.take_add_one, hq, Option.toList_some, List.map_append, List.map_append]
              rfl
          · obtain ⟨sK, kD, _⟩ := z
            rw [lws, List.take_length] at kD
            refine ⟨D, _, rfl, .inl (.inl kD), by rw [List.length_map, lR]; decide, fun m hm hmax => ?_⟩
            have em : m = farN g r c s0.1 s0.2 := by
              obtain ⟨q, hq, e1⟩ := List.mem_map.mp hm
              have h1 := htop.ge s0.1 s0.2 q hq
              obtain ⟨q', hq', e2⟩ := htop.at_ s0.1 s0.2
              have h2 := hmax _ (List.mem_map.mpr ⟨q', hq', rfl⟩)
              omega
            subst em
            have okc := ok
            obtain ⟨ok0, ok1, ok2, ok3⟩ := okc
            rcases hb' with ⟨rfl, rfl⟩ | ⟨i0, hb', okb⟩
            · have e0 : s0 = (0, 1) := by
                rw [hS0] at hs
                cases hs
                rfl
              refine ⟨_, rfl, rfl, _, rfl, iteT (iteT ⟨_, rfl, _, rfl, (by show 2 ≤ sizeLine; decide), fun p7 H7 n7 s7 e7 => ?_⟩)⟩
              refine ⟨_, _, _, _, _, _, rfl, sJ.trans (sK.trans s7), .inr ⟨by decide, ?_, ?_⟩⟩
              · rw [e0] at e7
                exact ⟨p7, rfl, .inl (.inl e7)⟩
              · rw [e0] at ok
                exact ok
            · obtain ⟨j, rfl⟩ : ∃ j, i = j + 1 := ⟨i - 1, by omega⟩
              have hs' : S.tail[j]? = some s0 := by rw [List.getElem?_tail]; exact hs
              show _
              rw [show j + 1 - 1 = j by omega] at hb' okb
              have et : (S.tail.take (j + 1 + 1 - 1)).foldl (pick g r c) (0, 1) = pick g r c ((S.tail.take j).foldl (pick g r c) (0, 1)) s0 := by
                rw [show j + 1 + 1 - 1 = j + 1 by omega, List.take_add_one, hs', Option.toList_some, List.foldl_append, List.foldl_cons, List.foldl_nil]
              generalize (S.tail.take j).foldl (pick g r c) (0, 1) = z at hb' okb et
              have fz := far_bd hb okb.1 okb.2.1 okb.2.2.2
              have fy := far_nn g r c z.1 z.2
              obtain ⟨bz, rfl, hbz⟩ := id (hb'.same sK)
              have okz := okb
              obtain ⟨k0, k1, m0, m1⟩ := okz
              refine ⟨_, rfl, rfl, _, rfl, iteF ⟨_, rfl, _, rfl, bz, _, 1, _, rfl, rfl, hbz, rfl, _, _, rfl, rfl, .inl (by omega), _, rfl, bz, _, 0, _, rfl, rfl, hbz, rfl, _, rfl, _, _, rfl, rfl, .inl (by omega), _, _, rfl, rfl, _, rfl, ite2 (fun e => ?_) (fun e => ?_)⟩⟩
              · have e : farN g r c s0.1 s0.2 * z.2 < farN g r c z.1 z.2 * s0.2 := of_decide_eq_true e
                have ep : pick g r c z s0 = s0 := by
                  unfold pick
                  rw [if_pos]
                  have := Int.mul_lt_mul_of_pos_right e g0
                  have e1 : farN g r c s0.1 s0.2 * (z.2 * g) = farN g r c s0.1 s0.2 * z.2 * g := by grind
                  have e2 : farN g r c z.1 z.2 * (s0.2 * g) = farN g r c z.1 z.2 * s0.2 * g := by grind
                  omega
                refine ⟨_, rfl, _, rfl, (by show 2 ≤ sizeLine; decide), fun p7 H7 n7 s7 e7 => ?_⟩
                refine ⟨_, _, _, _, _, _, rfl, sJ.trans (sK.trans s7), .inr ⟨by omega, ?_, ?_⟩⟩
                · rw [et, ep]; exact ⟨p7, rfl, .inl (.inl e7)⟩
                · rw [et, ep]; exact ok
              · have e : ¬ farN g r c s0.1 s0.2 * z.2 < farN g r c z.1 z.2 * s0.2 := fun y => e (decide_eq_true y)
                have ep : pick g r c z s0 = z := by
                  unfold pick
                  rw [if_neg]
                  intro y
                  refine e (Int.lt_of_mul_lt_mul_right (a := g) ?_ (Int.le_of_lt g0))
                  have e1 : farN g r c s0.1 s0.2 * (z.2 * g) = farN g r c s0.1 s0.2 * z.2 * g := by grind
                  have e2 : farN g r c z.1 z.2 * (s0.2 * g) = farN g r c z.1 z.2 * s0.2 * g := by grind
                  omega
                refine ⟨_, _, _, _, _, _, rfl, sJ.trans sK, .inr ⟨by omega, ?_, ?_⟩⟩
                · rw [et, ep]; exact ⟨bz, rfl, hbz⟩
                · rw [et, ep]; exact okb
        · obtain ⟨y5, y6, y11, y12, y13, b, rfl, sJ, hb'⟩ := z
          rcases hb' with ⟨e, _⟩ | ⟨_, hb', okb⟩
          · rw [lus, hS0] at e
            simp at e
          have et : S.tail.take (us.length - 1) = S.tail := List.take_of_length_le (by rw [lus, List.length_tail]; exact Nat.le_refl _)
          rw [et] at hb' okb
          obtain ⟨h1, h2⟩ := fold_min (g := g) (r := r) (c := c) g0 S.tail (0, 1) (by decide) fun s hs => (hokS s (List.mem_of_mem_tail hs)).2.2.1
          rw [← hS0] at h2
          have nst := nst_of g0 hcov okb.1 okb.2.1 okb.2.2.1 h2
          generalize S.tail.foldl (pick g r c) (0, 1) = z at hb' okb nst
          have fb := far_bd hb okb.1 okb.2.1 okb.2.2.2
          have fn := far_nn g r c z.1 z.2
          obtain ⟨bb, rfl, hbb⟩ := hb'
          obtain ⟨k0, k1, m0, m1⟩ := okb
          have mg : 0 < z.2 * g := Int.mul_pos m0 g0
          have mg1 := (prod_bd (a := z.2) (b := g) (B := 1000) (by omega) m1 (by omega) (by decide)).2
          refine ⟨_, rfl, bb, _, 0, _, rfl, rfl, hbb, rfl, _, rfl, bb, _, 1, _, rfl, rfl, hbb, rfl, _, rfl, _, _, rfl, rfl, .inl (by omega), (by show 2 ≤ sizeLine; decide), fun p7 H7 n7 s7 e7 => ?_⟩
          exact q _ H7 (farN g r c z.1 z.2, z.2 * g) ((g4.trans sJ).trans s7) ⟨p7, rfl, .inl (.inl e7)⟩ nst ⟨by show -(2 ^ 60) < farN g r c z.1 z.2; omega, by show farN g r c z.1 z.2 < 2 ^ 60; omega, mg, by show z.2 * g < 2 ^ 60; omega⟩

end
end Cl

set_option maxHeartbeats 0
namespace Cl
open PySem PySem.Spec PyProof.Rows L2
open GxR (TabB TabG)

def spLow24 (K : PySem.W.Frag) : Sp := fun vs H Q _ => ∃ n d : Int, vs = [.int n, .int d] ∧ 0 ≤ n ∧ 0 < d ∧ n < 2 ^ 60 ∧ d < 2 ^ 60 ∧ ∀ w H', Same H H' → At2 K H' w (lowN n d) → Q w H'
def spOff24 (K : PySem.W.Frag) : Sp := fun vs H Q _ => ∃ g v u r ps, vs = [.int g, v, u] ∧ AtL K H v r ∧ AtP K H u ps ∧ (0 < g ∧ ∀ c ∈ ps, BdW g r c) ∧ ∀ w H' z, Same H H' → Off g r ps z → ShB z → At2 K H' w (lowN z.1 z.2) → Q w H'
def spSign : Sp := fun vs H Q _ => ∃ n : Int, vs = [.int n] ∧ Q (.int ((if 0 < n then 1 else 0) - (if n < 0 then 1 else 0))) H

section
variable {P : Program} {w : World} {K : PySem.W.Frag} {mg : Str → Option Value} {base : Heap}

theorem ok_law_lowest {f : Addr} {fd : FuncData} (F : Fun K "_law_lowest" "_law_lowest" s_law_lowest f fd) (T : Bt mg) :
    FnG P w K mg base CX0 1 f fd ["_law_n", "_law_d"] (spLow24 K) := by
  refine okG (k := 0) F sc_law_lowest (fun vs H Q E h => ?_) (fun cdv A outer s H vs Q E hr h => ?_)
  · obtain ⟨n, d, rfl, _⟩ := h
    rfl
  · obtain ⟨n, d, rfl, h0, h1, h2, h3, q⟩ := h
    refine ⟨_, (pss_cons (ps_par (i := 2) (j := 3) (by rfl) sc_law_lowest.nd rfl rfl (by decide) rfl rfl (pa_cons (pv 0) (pa_cons (pv 1) pa_nil)) (by rfl))
      (pss_cons (ps_while PassesOwn.never (pt_cmpR op_ne (pv 3) pe_int (nomark _)) (pss_one (ps_par (i := 2) (j := 3) (by rfl) sc_law_lowest.nd rfl rfl (by decide) rfl rfl (pa_cons (pv 3) (pa_cons (pe_op op_mod (pv 2) (pv 3)) pa_nil)) (by rfl))))
      (pss_one (ps_ret (tupN (pa_cons (pe_op op_fdivW (pv 0) (pv 2)) (pa_cons (pe_op op_fdivW (pv 1) (pv 2)) pa_nil))))))), ?_⟩
    refine ⟨_, rfl, _, rfl, _, _, rfl, ?_⟩
    refine while_by (fun σ H' => ∃ a b : Nat, σ = [some (.int n), some (.int d), some (.int a), some (.int b)] ∧ H' = H ∧ Nat.gcd a b = Int.gcd n d) (fun σ _ => match σ with | [_, _, _, some (.int b)] => b.toNat | _ => 0) ?_ ?_ ?_
    · refine ⟨n.natAbs, d.natAbs, ?_, rfl, rfl⟩
      rw [Int.natAbs_of_nonneg h0, Int.natAbs_of_nonneg (Int.le_of_lt h1)]
      rfl
    · rintro σ H' ⟨a, b, rfl, rfl, hg⟩
      refine ⟨_, rfl, rfl, _, rfl, ite2 (fun e => ?_) (fun e => ?_)⟩
      · have hb : 0 < b := by
          refine Nat.pos_of_ne_zero fun z => ?_
          rw [z] at e
          simp at e
        refine ⟨_, rfl, _, rfl, _, rfl, _, _, rfl, rfl, (by omega), _, _, rfl, ⟨b, a % b, rfl, rfl, ?_⟩, ?_⟩
        · rw [← hg, Nat.gcd_comm b, ← Nat.gcd_rec, Nat.gcd_comm]
        · show ((a : Int) % (b : Int)).toNat < (b : Int).toNat
          have := Nat.mod_lt a hb
          omega
      · have hb : b = 0 := by
          refine Classical.byContradiction fun z => e ?_
          simpa using z
        subst hb
        rw [Nat.gcd_zero_right] at hg
        obtain ⟨k, ek, k0, k1, e1, e2, k2⟩ := low_parts (n := n) h1
        have ea : (a : Int) = k := by rw [ek, hg]
        rw [ea]
        refine ⟨_, rfl, _, rfl, _, _, rfl, rfl, wide_div (b := 200) k0 (by omega) (by decide) (by decide), _, rfl, _, rfl, _, _, rfl, rfl, wide_div (b := 200) k0 (by omega) (by decide) (by decide), (by show 2 ≤ sizeLine; decide), fun p H1 nn s e => ?_⟩
        subst ek
        exact q _ _ s ⟨p, rfl, .inl (.inl e)⟩
    · rintro σ H1 Q1 Q2 hq ⟨v, h1, h2, k, h3, h4⟩
      exact ⟨v, h1, h2, k, h3, hq _ _ h4⟩

theorem ok_law_off {f : Addr} {fd : FuncData} (F : Fun K "_law_off" "_law_off" s_law_off f fd) (T : Bt mg) (D_law_far : Def P w K mg base 1 "_law_far" ["_law_grain_here", "_law_line_here", "_law_corner"] (spFar24 K)) (D_law_lowest : Def P w K mg base 1 "_law_lowest" ["_law_n", "_law_d"] (spLow24 K)) :
    FnG P w K mg base CX0 2 f fd ["_law_grain_here", "_law_line_here", "_law_path_here"] (spOff24 K) := by
  refine okG (k := 1) F sc_law_off (fun vs H Q E h => ?_) (fun cdv A outer s H vs Q E hr h => ?_)
  · obtain ⟨g, v, u, r, ps, rfl, _⟩ := h
    rfl
  · obtain ⟨g, v, u, r, ps, rfl, hL, hu, hb, q⟩ := h
    refine ⟨_, (pss_cons (ps_set (i := 3) sc_law_off.nd rfl (.inl rfl) (tupN (pa_cons pe_int (pa_cons pe_int pa_nil))))
      (pss_cons (ps_for PassesOwn.never rfl (pi_tup (pv 2)) (pg_name (i := 4) sc_law_off.nd rfl (.inl rfl)) (pss_cons (ps_asg (callD D_law_far (hr.mono (by decide)) (pa_cons (pv 0) (pa_cons (pv 1) (pa_cons (pv 4) pa_nil)))) (pg_tup (by rfl) (pgs_cons (pg_name (i := 5) sc_law_off.nd rfl (.inl rfl)) (pgs_cons (pg_name (i := 6) sc_law_off.nd rfl (.inl rfl)) pgs_nil))))
      (pss_one (ps_if (pt_cmpR op_gt (pe_op op_mul (pv 5) (pe_ix ix_tup (pv 3) pe_int (fun _ _ => rfl))) (pe_op op_mul (pe_ix ix_tup (pv 3) pe_int (fun _ _ => rfl)) (pv 6)) (nomark _)) (pss_one (ps_set (i := 3) sc_law_off.nd rfl (.inl rfl) (tupN (pa_cons (pv 5) (pa_cons (pv 6) pa_nil))))) pss_nil))))
      (pss_one (ps_ret (callD D_law_lowest (hr.mono (by decide)) (pa_cons (pe_ix ix_tup (pv 3) pe_int (fun _ _ => rfl)) (pa_cons (pe_ix ix_tup (pv 3) pe_int (fun _ _ => rfl)) pa_nil))))))), ?_⟩
    obtain ⟨a, vs, rfl, hS, hall⟩ := id hu
    refine ⟨(by show 2 ≤ sizeLine; decide), fun p1 H1 n1 s1 e1 => ?_⟩
    refine ⟨_, rfl, a, rfl, ⟨_, seT s1 hS⟩, for_tup (K := K) (a := a) (xs := vs) (fun i σ H' => ∃ b y4 y5 y6 z, σ = [some (.int g), some v, some (.ref a), some b, y4, y5, y6] ∧ Same H H' ∧ At2 K H' b z ∧ Off g r (ps.take i) z ∧ ShB z) ?_ (fun i σ H' _ z => ?_) (fun i x σ H' hx z => ?_) (fun σ H' z => ?_)⟩
    · exact ⟨_, _, _, _, (0, 1), rfl, s1, ⟨p1, rfl, .inl (.inl e1)⟩, Off.start g r, by decide, by decide, by decide, by decide⟩
    · obtain ⟨_, _, _, _, _, _, sH, _⟩ := z
      exact seT sH hS
    · obtain ⟨b, y4, y5, y6, z, rfl, sH, hz, hO, hB⟩ := z
      obtain ⟨c, hc, hxc⟩ := hall.get hx
      have bw := hb.2 c (List.mem_of_getElem? hc)
      refine ⟨.int g, rfl, _, rfl, _, rfl, g, v, x, r, c, rfl, hL.same sH, hxc.same sH, bw, fun w1 H2 w s2 e2 nst bB => ?_⟩
      obtain ⟨b1, rfl, hb1⟩ := e2
      obtain ⟨b0, rfl, hb0⟩ := hz.same s2
      obtain ⟨w1, w2, w3, w4⟩ := id bB
      obtain ⟨z1, z2, z3, z4⟩ := id hB
      refine ⟨b1, _, rfl, hb1, rfl, _, _, rfl, _, _, rfl, rfl, ?_⟩
      have hOn : Off g r (ps.take (i + 1)) (later z w) := by
        rw [List.take_add_one, hc]
        exact hO.step hb.1 nst
      refine ⟨_, rfl, _, rfl, b0, _, 1, _, rfl, rfl, hb0, rfl, _, _, rfl, rfl, .inl (by omega), _, rfl, b0, _, 0, _, rfl, rfl, hb0, rfl, _, rfl, _, _, rfl, rfl, .inl (by omega), _, _, rfl, rfl, _, rfl, ite2 (fun e => ?_) (fun e => ?_)⟩
      · have e : z.1 * w.2 < w.1 * z.2 := of_decide_eq_true e
        have el : later z w = w := if_pos e
        rw [el] at hOn
        exact ⟨_, rfl, _, rfl, (by show 2 ≤ sizeLine; decide), fun p3 H3 n3 s3 e3 => ⟨_, _, _, _, w, rfl, sH.trans (s2.trans s3), ⟨p3, rfl, .inl (.inl e3)⟩, hOn, bB⟩⟩
      · have e : ¬ z.1 * w.2 < w.1 * z.2 := fun y => e (decide_eq_true y)
        have el : later z w = z := if_neg e
        rw [el] at hOn
        exact ⟨_, _, _, _, z, rfl, sH.trans s2, ⟨b0, rfl, hb0⟩, hOn, hB⟩
    · obtain ⟨b, y4, y5, y6, z, rfl, sH, hz, hO, hB⟩ := z
      rw [hall.length, List.take_length] at hO
      obtain ⟨bb, rfl, hbb⟩ := id hz
      exact ⟨_, rfl, bb, _, 0, _, rfl, rfl, hbb, rfl, _, rfl, bb, _, 1, _, rfl, rfl, hbb, rfl, z.1, z.2, rfl, hO.nn, hO.pos, hB.2.1, hB.2.2.2, fun w H2 s2 e2 => q w H2 z (sH.trans s2) hO hB e2⟩

theorem ok_law_sign {f : Addr} {fd : FuncData} (F : Fun K "_law_sign" "_law_sign" s_law_sign f fd) (T : Bt mg) :
    FnG P w K mg base CX0 1 f fd ["_law_number"] spSign := by
  refine okG (k := 0) F sc_law_sign (fun vs H Q E h => ?_) (fun cdv A outer s H vs Q E hr h => ?_)
  · obtain ⟨n, rfl, _⟩ := h
    rfl
  · obtain ⟨n, rfl, q⟩ := h
    refine ⟨_, (pss_one (ps_ret (pe_op op_sub (pe_callTy call_int1 (by rfl) T.int (by decide +kernel) (pa_cons (pe_cmpR op_gt (pv 0) pe_int (nomark _)) pa_nil)) (pe_callTy call_int1 (by rfl) T.int (by decide +kernel) (pa_cons (pe_cmpR op_lt (pv 0) pe_int (nomark _)) pa_nil))))), ?_⟩
    refine ⟨_, rfl, _, _, rfl, rfl, .inr ⟨_, rfl, _, rfl, _, _, rfl, rfl, .inr ⟨_, rfl, _, _, rfl, rfl, ?_⟩⟩⟩
    have e1 : (if decide (0 < n) = true then (1 : Int) else 0) = if 0 < n then 1 else 0 := by simp
    have e2 : (if decide (n < 0) = true then (1 : Int) else 0) = if n < 0 then 1 else 0 := by simp
    show Q (V.int ((if decide (0 < n) = true then 1 else 0) - if decide (n < 0) = true then 1 else 0)) H
    rw [e1, e2]
    exact q

end
end Cl

set_option maxHeartbeats 0
namespace Cl
open PySem PySem.Spec PyProof.Rows L2
open GxR (TabB TabG)

section
def rawAt (g : Int) (r : Ln) (c : Pt) : Nat → List Int
  | 0 => [0, wh r]
  | i + 1 => rawAt g r c i ++ crsR g (2 * crd r.1 i) (2 * (crd r.2 i - crd r.1 i)) (crd c i) (wh r)
theorem crsR_len (g f w k W : Int) : (crsR g f w k W).length ≤ 2 := by unfold crsR; split <;> simp
theorem rawAt_len (g : Int) (r : Ln) (c : Pt) : ∀ i, (rawAt g r c i).length ≤ 2 + 2 * i
  | 0 => by simp [rawAt]
  | i + 1 => by
    have h1 := rawAt_len g r c i
    have h2 := crsR_len g (2 * crd r.1 i) (2 * (crd r.2 i - crd r.1 i)) (crd c i) (wh r)
    show (rawAt g r c i ++ _).length ≤ _
    rw [List.length_append]
    omega
theorem raw_len (g : Int) (r : Ln) (c : Pt) : (raw g r c).length ≤ 6 := by
  have h1 := crsR_len g (2 * r.1.1) (2 * (r.2.1 - r.1.1)) c.1 (wh r)
  have h2 := crsR_len g (2 * r.1.2) (2 * (r.2.2 - r.1.2)) c.2 (wh r)
  unfold raw
  rw [List.length_append, List.length_append]
  show 2 + _ + _ ≤ 6
  omega
def inU (g : Int) (r : Ln) (c : Pt) (s : Int) : Nat → Bool
  | 0 => true
  | j + 1 => inU g r c s j && inB g (2 * crd r.1 j) (2 * (crd r.2 j - crd r.1 j)) (crd c j) (wh r) s
theorem at_sgn (w : Int) : atI [V.int (-1), .int 1] (if decide (w > 0) = true then 1 else 0) = some (.int (sgn w)) := by
  unfold sgn
  by_cases h : w > 0
  · rw [decide_eq_true h, if_pos h]; rfl
  · rw [decide_eq_false h, if_neg h]; rfl
theorem zip_at {L : List Int} {i : Nat} {vx vy : V} (hi : i < (L.dropLast.zip L.tail).length) (hx : (L.map V.int).dropLast[i]? = some vx) (hy : (L.map V.int).tail[i]? = some vy) :
    ∃ z1 z2, (L.dropLast.zip L.tail)[i]? = some (z1, z2) ∧ vx = .int z1 ∧ vy = .int z2 := by
  obtain ⟨z, hz⟩ : ∃ z, (L.dropLast.zip L.tail)[i]? = some z := ⟨_, List.getElem?_eq_getElem hi⟩
  obtain ⟨h1, h2⟩ := List.getElem?_zip_eq_some.mp hz
  rw [← List.map_dropLast, List.getElem?_map, h1] at hx
  rw [← List.map_tail, List.getElem?_map, h2] at hy
  exact ⟨z.1, z.2, hz, (Option.some.inj hx).symm, (Option.some.inj hy).symm⟩


def spMet24 (K : PySem.W.Frag) : Sp := fun vs H Q _ => ∃ g v u r c, vs = [.int g, v, u] ∧ AtL K H v r ∧ At2 K H u c ∧ 0 < g ∧ g ≤ 1000 ∧ BdR 1100000 r ∧ BdN 1000000 c ∧
  ∀ b H', Same H H' → (b = true ↔ Meets g r c) → Q (.bl b) H'

section
variable {P : Program} {w : World} {K : PySem.W.Frag} {mg : Str → Option Value} {base : Heap}

theorem ok_law_met {f : Addr} {fd : FuncData} (F : Fun K "_law_met" "_law_met" s_law_met f fd) (T : Bt mg) :
    FnG P w K mg base CX0 1 f fd ["_law_grain_here", "_law_line_here", "_law_corner"] (spMet24 K) := by
  refine okG (k := 0) F sc_law_met (fun vs H Q E h => ?_) (fun cdv A outer s H vs Q E hr h => ?_)
  · obtain ⟨g, v, u, r, c, rfl, _⟩ := h
    rfl
  · obtain ⟨g, _, _, r, c, rfl, ⟨a, _, _, rfl, hS, ⟨b, rfl, hb⟩, ⟨b2, rfl, hb2⟩⟩, ⟨cc, rfl, hc⟩, h0, h1, bR, bC, q⟩ := h
    refine ⟨_, (pss_cons (ps_asg (pv 1) (pg_tup (by rfl) (pgs_cons (pg_tup (by rfl) (pgs_cons (pg_name (i := 3) sc_law_met.nd rfl (.inl rfl)) (pgs_cons (pg_name (i := 4) sc_law_met.nd rfl (.inl rfl)) pgs_nil))) (pgs_cons (pg_tup (by rfl) (pgs_cons (pg_name (i := 5) sc_law_met.nd rfl (.inl rfl)) (pgs_cons (pg_name (i := 6) sc_law_met.nd rfl (.inl rfl)) pgs_nil))) pgs_nil))))
      (pss_cons (ps_set (i := 7) sc_law_met.nd rfl (.inl rfl) (lstN (pa_cons (tupN (pa_cons (pe_op op_mul pe_int (pv 3)) (pa_cons (pe_op op_mul pe_int (pe_op op_sub (pv 5) (pv 3))) (pa_cons (pe_ix ix_tup (pv 2) pe_int (fun _ _ => rfl)) pa_nil)))) (pa_cons (tupN (pa_cons (pe_op op_mul pe_int (pv 4)) (pa_cons (pe_op op_mul pe_int (pe_op op_sub (pv 6) (pv 4))) (pa_cons (pe_ix ix_tup (pv 2) pe_int (fun _ _ => rfl)) pa_nil)))) pa_nil))))
      (pss_cons (ps_set (i := 8) sc_law_met.nd rfl (.inr rfl) (pe_op op_mul (pe_callB (call_max2 rfl) (by rfl) T.max (by decide +kernel) (pa_cons pe_int (pa_cons (pe_callB call_abs (by rfl) T.abs (by decide +kernel) (pa_cons (pe_ix ix_tup (pe_ix ix_list (pv 7) pe_int (fun _ _ => rfl)) pe_int (fun _ _ => rfl)) pa_nil)) pa_nil))) (pe_callB (call_max2 rfl) (by rfl) T.max (by decide +kernel) (pa_cons pe_int (pa_cons (pe_callB call_abs (by rfl) T.abs (by decide +kernel) (pa_cons (pe_ix ix_tup (pe_ix ix_list (pv 7) pe_int (fun _ _ => rfl)) pe_int (fun _ _ => rfl)) pa_nil)) pa_nil)))))
      (pss_cons (ps_set (i := 9) sc_law_met.nd rfl (.inl rfl) (lstN (pa_cons pe_int (pa_cons (pv 8) pa_nil))))
      (pss_cons (ps_for PassesOwn.never rfl (pi_list (pv 7)) (pg_tup (by rfl) (pgs_cons (pg_name (i := 10) sc_law_met.nd rfl (.inl rfl)) (pgs_cons (pg_name (i := 11) sc_law_met.nd rfl (.inl rfl)) (pgs_cons (pg_name (i := 12) sc_law_met.nd rfl (.inl rfl)) pgs_nil)))) (pss_one (ps_for PassesOwn.never rfl (pi_list (pe_op op_repN (lstN (pa_cons (pe_op op_mul (pe_op op_sub (pe_op op_mul pe_int (pv 12)) pe_int) (pv 0)) (pa_cons (pe_op op_mul (pe_op op_add (pe_op op_mul pe_int (pv 12)) pe_int) (pv 0)) pa_nil))) (pe_callTy call_int1 (by rfl) T.int (by decide +kernel) (pa_cons (pe_cmpR op_ne (pv 11) pe_int (nomark _)) pa_nil)))) (pg_name (i := 13) sc_law_met.nd rfl (.inl rfl)) (pss_one (ps_expr (pe_bm PySem.F.plainAttrs_list PySem.F.slot_list_append PySem.F.type_list_append mt_append (pv 9) (pa_cons (pe_op op_mul (pe_op op_mul (pe_op op_sub (pv 13) (pv 10)) (pe_op op_fdivW (pv 8) (pe_callB call_abs (by rfl) T.abs (by decide +kernel) (pa_cons (pv 11) pa_nil)))) (pe_ix ix_list (lstN (pa_cons (pe_un un_neg pe_int) (pa_cons pe_int pa_nil))) (pe_callTy call_int1 (by rfl) T.int (by decide +kernel) (pa_cons (pe_cmpR op_gt (pv 11) pe_int (nomark _)) pa_nil)) (fun _ _ => rfl))) pa_nil)))))))
      (pss_cons (ps_set (i := 9) sc_law_met.nd rfl (.inl rfl) (pe_callB cr_sortedIN (by rfl) T.sorted (by decide +kernel) (pa_cons (pe_lc (own := [("_law_share", 14)]) (g := gName 14) (by rfl) sc_law_met.nd (pi_list (pv 9)) (blkOk_by (own := [("_law_share", 14)]) (N := ["_law_grain_here", "_law_line_here", "_law_corner", "_law_x", "_law_y", "_law_u", "_law_v", "_law_rows", "_law_whole", "_law_shares", "_law_first", "_law_way", "_law_k", "_law_side", "_law_share", "_law_one", "_law_other", "_law_inside", "_law_at", "_law_low", "_law_high"]) (sc := defScope s_law_met) (by decide +kernel)) (fun _ _ _ _ _ => (pg_name (i := 14) sc_law_met.nd rfl (.inl rfl))) (fun _ _ _ _ _ => (pts_one (pt_chain op_le op_le pe_int (pv 14) (pv 8)))) (fun _ _ _ _ _ => (pe_op op_mul pe_int (pv 14)))) pa_nil)))
      (pss_cons (ps_set (i := 9) sc_law_met.nd rfl (.inl rfl) (pe_op op_catLN (pv 9) (pe_lc (own := [("_law_one", 15), ("_law_other", 16)]) (g := gTup K 2 (gCons (gName 15) (gCons (gName 16) gNil))) (tt := tYes) (by rfl) sc_law_met.nd (pi_zip (by rfl) T.zip (pa_cons (pe_slice sl_listN (pv 9) po_none (po_some (pe_un un_neg pe_int))) (pa_cons (pe_slice sl_listN (pv 9) (po_some pe_int) po_none) pa_nil))) (blkOk_by (own := [("_law_one", 15), ("_law_other", 16)]) (N := ["_law_grain_here", "_law_line_here", "_law_corner", "_law_x", "_law_y", "_law_u", "_law_v", "_law_rows", "_law_whole", "_law_shares", "_law_first", "_law_way", "_law_k", "_law_side", "_law_share", "_law_one", "_law_other", "_law_inside", "_law_at", "_law_low", "_law_high"]) (sc := defScope s_law_met) (by decide +kernel)) (fun _ _ _ _ _ => (pg_tup (by rfl) (pgs_cons (pg_name (i := 15) sc_law_met.nd rfl (.inl rfl)) (pgs_cons (pg_name (i := 16) sc_law_met.nd rfl (.inl rfl)) pgs_nil)))) (fun _ _ _ _ _ => pts_nil) (fun _ _ _ _ _ => (pe_op op_fdiv (pe_op op_add (pv 15) (pv 16)) pe_int)))))
      (pss_cons (ps_for PassesOwn.never rfl (pi_list (pv 9)) (pg_name (i := 14) sc_law_met.nd rfl (.inl rfl)) (pss_cons (ps_set (i := 17) sc_law_met.nd rfl (.inl rfl) pe_bl)
      (pss_cons (ps_for PassesOwn.never rfl (pi_list (pv 7)) (pg_tup (by rfl) (pgs_cons (pg_name (i := 10) sc_law_met.nd rfl (.inl rfl)) (pgs_cons (pg_name (i := 11) sc_law_met.nd rfl (.inl rfl)) (pgs_cons (pg_name (i := 12) sc_law_met.nd rfl (.inl rfl)) pgs_nil)))) (pss_cons (ps_set (i := 18) sc_law_met.nd rfl (.inl rfl) (pe_op op_add (pe_op op_mul (pe_op op_mul (pv 10) pe_int) (pv 8)) (pe_op op_mul (pv 11) (pv 14))))
      (pss_cons (ps_par (i := 19) (j := 20) (by rfl) sc_law_met.nd rfl rfl (by decide) rfl rfl (pa_cons (pe_op op_mul (pe_op op_sub (pe_op op_mul pe_int (pv 12)) pe_int) (pv 0)) (pa_cons (pe_op op_mul (pe_op op_add (pe_op op_mul pe_int (pv 12)) pe_int) (pv 0)) pa_nil)) (by rfl))
      (pss_one (ps_set (i := 17) sc_law_met.nd rfl (.inl rfl) (pe_and (pv 17) (pe_one (pe_chain op_le op_lt (pe_op op_mul (pe_op op_mul (pv 19) pe_int) (pv 8)) (pv 18) (pe_op op_mul (pe_op op_mul (pv 20) pe_int) (pv 8))))))))))
      (pss_one (ps_if (pt_val (pv 17)) (pss_one (ps_ret pe_bl)) pss_nil)))))
      (pss_one (ps_ret pe_bl)))))))))), ?_⟩
    have W0 := wh_pos r
    have W1 := wh_le bR
    obtain ⟨b1, b3⟩ := id bR
    unfold BdN at b1 b3 bC
    refine ⟨_, rfl, a, _, rfl, hS, rfl, _, _, rfl, b, _, rfl, hb, rfl, _, _, rfl, _, _, rfl, rfl, _, _, rfl, b2, _, rfl, hb2, rfl, _, _, rfl, _, _, rfl, rfl, rfl, ?_⟩
    refine ⟨_, rfl, _, _, rfl, rfl, .inl (by decide), _, rfl, _, rfl, _, _, rfl, rfl, _, _, rfl, rfl, .inl (by decide), _, rfl, cc, _, 0, _, rfl, rfl, hc, rfl, (by show 3 ≤ sizeLine; decide), fun p1 H1 n1 s1 g1 => ?_⟩
    refine ⟨_, rfl, _, _, rfl, rfl, .inl (by decide), _, rfl, _, rfl, _, _, rfl, rfl, _, _, rfl, rfl, .inl (by decide), _, rfl, cc, _, 1, _, rfl, rfl, seT s1 hc, rfl, (by show 3 ≤ sizeLine; decide), fun p2 H2 n2 s2 g2 => ⟨(by show 2 ≤ sizeLine; decide), fun p3 H3 n3 s3 g3 => ?_⟩⟩
    have k1 := (s2.trans s3) _ _ g1
    have k2 := s3 _ _ g2
    have mw := m1_le (z := 2 * (r.2.1 - r.1.1)) (B := 4400000) (by omega) (by omega) (by omega)
    have mw0 := m1_pos (2 * (r.2.1 - r.1.1))
    refine ⟨_, rfl, p3, _, 0, _, rfl, rfl, .inl (.inl g3), rfl, p1, _, 1, _, rfl, rfl, .inl (.inl k1), rfl, _, rfl, _, _, rfl, _, rfl, p3, _, 1, _, rfl, rfl, .inl (.inl g3), rfl, p2, _, 1, _, rfl, rfl, .inl (.inl k2), rfl, _, rfl, _, _, rfl, _, _, rfl, rfl, .inl (show -(2 ^ 64) < m1 (2 * (r.2.1 - r.1.1)) ∧ m1 (2 * (r.2.1 - r.1.1)) < 2 ^ 64 by omega), ?_⟩
    refine ⟨_, rfl, (by show 2 ≤ sizeLine; decide), fun p4 H4 n4 s4 g4 => ?_⟩
    have row : ∀ i x, [V.ref p1, .ref p2][i]? = some x → ∃ t, x = .ref t ∧ H3 t = some (.tup [.int (2 * crd r.1 i), .int (2 * (crd r.2 i - crd r.1 i)), .int (crd c i)]) ∧ i < 2 := fun i x hx => by
      match i, hx with
      | 0, hx => exact ⟨p1, (Option.some.inj hx).symm, k1, by decide⟩
      | 1, hx => exact ⟨p2, (Option.some.inj hx).symm, k2, by decide⟩
      | i + 2, hx => cases hx
    have bcr : ∀ i, -1100000 ≤ crd r.1 i ∧ crd r.1 i ≤ 1100000 ∧ -1100000 ≤ crd r.2 i ∧ crd r.2 i ≤ 1100000 ∧ -1000000 ≤ crd c i ∧ crd c i ≤ 1000000 := fun i => by
      unfold crd
      split <;> omega
    -- the crossings
    have stage : ∀ i, i < 2 → ∃ t : List Int, rawAt g r c i ++ t = rawAt g r c (i + 1) := fun i hi => ⟨_, rfl⟩
    refine ⟨_, rfl, p3, rfl, ⟨_, .inl (.inl (s4 _ _ g3))⟩, for_list (K := K) (a := p3) (xs := [V.ref p1, .ref p2]) (fun i σ H' => ∃ y10 y11 y12 y13 y14 y15 y16 y17 y18 y19 y20, σ = [some (.int g), some (.ref a), some (.ref cc), some (.int r.1.1), some (.int r.1.2), some (.int r.2.1), some (.int r.2.2), some (.ref p3), some (.int (wh r)), some (.ref p4), y10, y11, y12, y13, y14, y15, y16, y17, y18, y19, y20] ∧ Same H3 H' ∧ H' p4 = some (.lst ((rawAt g r c i).map V.int))) ?_ ?_ ?_ ?_⟩
    · exact ⟨_, _, _, _, _, _, _, _, _, _, _, rfl, s4, g4⟩
    · rintro i σ H' _ ⟨y10, y11, y12, y13, y14, y15, y16, y17, y18, y19, y20, rfl, sh, _⟩
      exact .inl (.inl (sh _ _ g3))
    · rintro i x σ H' hx ⟨y10, y11, y12, y13, y14, y15, y16, y17, y18, y19, y20, rfl, sh, e4⟩
      obtain ⟨t, rfl, ht, hi⟩ := row i x hx
      have bi := bcr i
      generalize est : crd r.1 i = st at *
      generalize efar : crd r.2 i = far at *
      generalize enum : crd c i = num at *
      refine ⟨t, _, rfl, .inl (.inl (sh _ _ ht)), rfl, _, _, rfl, _, _, rfl, _, _, rfl, rfl, ?_⟩
      refine ⟨_, rfl, _, _, rfl, rfl, .inl (by decide), _, _, rfl, rfl, _, rfl, _, _, rfl, rfl, .inr (by omega), _, rfl, _, _, rfl, rfl, .inl (by decide), _, _, rfl, rfl, _, rfl, _, _, rfl, rfl, .inr (by omega), (by show 2 ≤ sizeLine; decide), fun p5 H5 n5 s5 g5 => ?_⟩
      have e5 := s5 _ _ e4
      have rw_ : rawAt g r c (i + 1) = rawAt g r c i ++ crsR g (2 * st) (2 * (far - st)) num (wh r) := by
        show rawAt g r c i ++ crsR g (2 * crd r.1 i) (2 * (crd r.2 i - crd r.1 i)) (crd c i) (wh r) = _
        rw [est, efar, enum]
      have nH4 : H3 p4 = none := n4
      refine ⟨_, rfl, rfl, .inr ⟨_, rfl, ?_⟩⟩
      by_cases hw : 2 * (far - st) = 0
      · have e0 : (!decide (V.int (2 * (far - st)) = V.int 0)) = false := by rw [decide_eq_true (by rw [hw])]; rfl
        rw [e0]
        refine ⟨p5, 0, _, rfl, rfl, g5, by decide, by decide, (by show 2 * 0 ≤ sizeLine; decide), fun p6 H6 n6 s6 g6 => ?_⟩
        refine ⟨p6, rfl, ⟨_, .inl (.inl g6)⟩, for_list (K := K) (a := p6) (xs := []) (fun _ σ H' => ∃ y10 y11 y12 y13 y14 y15 y16 y17 y18 y19 y20, σ = [some (.int g), some (.ref a), some (.ref cc), some (.int r.1.1), some (.int r.1.2), some (.int r.2.1), some (.int r.2.2), some (.ref p3), some (.int (wh r)), some (.ref p4), y10, y11, y12, y13, y14, y15, y16, y17, y18, y19, y20] ∧ Same H3 H' ∧ H' p4 = some (.lst ((rawAt g r c (i + 1)).map V.int)) ∧ H' p6 = some (.lst [])) ?_ ?_ ?_ ?_⟩
        · refine ⟨_, _, _, _, _, _, _, _, _, _, _, rfl, (sh.trans s5).trans s6, ?_, g6⟩
          rw [rw_]
          unfold crsR
          rw [if_neg (by omega), List.append_nil]
          exact s6 _ _ e5
        · rintro j σ H' _ ⟨y10, y11, y12, y13, y14, y15, y16, y17, y18, y19, y20, rfl, _, _, z⟩
          exact .inl (.inl z)
        · rintro j x σ H' hx _
          cases hx
        · rintro σ H' ⟨y10, y11, y12, y13, y14, y15, y16, y17, y18, y19, y20, rfl, z1, z2, _⟩
          exact ⟨_, _, _, _, _, _, _, _, _, _, _, rfl, z1, z2⟩
      · have e0 : (!decide (V.int (2 * (far - st)) = V.int 0)) = true := by rw [decide_eq_false (fun z => hw (V.int.inj z))]; rfl
        rw [e0]
        refine ⟨p5, 1, _, rfl, rfl, g5, by decide, by decide, (by show 2 * 1 ≤ sizeLine; decide), fun p6 H6 n6 s6 g6 => ?_⟩
        have g6 : H6 p6 = some (.lst [.int (rimL g num), .int (rimH g num)]) := g6
        have rb := rim_b (n := num) h0 h1 (by omega) (by omega)
        have crw : crsR g (2 * st) (2 * (far - st)) num (wh r) = [rimL g num, rimH g num].map (crs (2 * st) (2 * (far - st)) (wh r)) := by unfold crsR; rw [if_pos hw]; rfl
        refine ⟨p6, rfl, ⟨_, .inl (.inl g6)⟩, for_list (K := K) (a := p6) (xs := [.int (rimL g num), .int (rimH g num)]) (fun j σ H' => ∃ y13 y14 y15 y16 y17 y18 y19 y20, σ = [some (.int g), some (.ref a), some (.ref cc), some (.int r.1.1), some (.int r.1.2), some (.int r.2.1), some (.int r.2.2), some (.ref p3), some (.int (wh r)), some (.ref p4), some (.int (2 * st)), some (.int (2 * (far - st))), some (.int num), y13, y14, y15, y16, y17, y18, y19, y20] ∧ Same H3 H' ∧ H' p4 = some (.lst ((rawAt g r c i ++ ([rimL g num, rimH g num].take j).map (crs (2 * st) (2 * (far - st)) (wh r))).map V.int)) ∧ H' p6 = some (.lst [.int (rimL g num), .int (rimH g num)])) ?_ ?_ ?_ ?_⟩
        · refine ⟨_, _, _, _, _, _, _, _, rfl, (sh.trans s5).trans s6, ?_, g6⟩
          rw [List.take_zero, List.map_nil, List.append_nil]
          exact s6 _ _ e5
        · rintro j σ H' _ ⟨y13, y14, y15, y16, y17, y18, y19, y20, rfl, _, _, z⟩
          exact .inl (.inl z)
        · rintro j x σ H' hx ⟨y13, y14, y15, y16, y17, y18, y19, y20, rfl, z1, z2, z3⟩
          have hk : ∃ k : Int, x = .int k ∧ [rimL g num, rimH g num][j]? = some k ∧ -(2 ^ 34) < k ∧ k < 2 ^ 34 ∧ j < 2 := by
            match j, hx with
            | 0, hx => exact ⟨_, (Option.some.inj hx).symm, rfl, by omega, by omega, by decide⟩
            | 1, hx => exact ⟨_, (Option.some.inj hx).symm, rfl, by omega, by omega, by decide⟩
            | j + 2, hx => cases hx
          obtain ⟨side, rfl, hk, sd0, sd1, hj⟩ := hk
          have abp := ab_pos hw
          have abl : ab (2 * (far - st)) < 2 ^ 64 := by unfold ab; split <;> omega
          refine ⟨.ref p4, rfl, .inl ⟨rfl, _, .inl (.inl z2)⟩, _, rfl, _, rfl, _, _, rfl, rfl, _, rfl, _, rfl, _, rfl, _, _, rfl, rfl, wide_div (b := 64) abp (by show (ab (2 * (far - st))).natAbs < 2 ^ 64; omega) (by decide) (by decide), _, _, rfl, rfl, .inl (by omega), _, rfl, (by show 2 ≤ sizeLine; decide), fun p7 H7 n7 s7 g7 => ?_⟩
          refine ⟨_, rfl, _, _, rfl, rfl, .inr ⟨_, rfl, p7, _, _, _, rfl, rfl, .inl (.inl g7), at_sgn (2 * (far - st)), _, _, rfl, rfl, .inr (by unfold sgn; split <;> omega), ?_⟩⟩
          have z7 := s7 _ _ z2
          refine ⟨p4, _, _, rfl, rfl, z7, ?_, ?_⟩
          · rw [List.length_map]
            refine small1000 ?_
            have := rawAt_len g r c i
            rw [List.length_append, List.length_map, List.length_take]
            show _ + min j 2 ≤ 1000
            omega
          · refine ⟨_, _, _, _, _, _, _, _, rfl, fun bb o e => ?_, ?_, ?_⟩
            · rw [upd_ne (ne_of_none e nH4)]; exact (z1.trans s7) _ _ e
            · rw [upd_same, List.take_add_one, hk]
              simp only [List.map_append, List.append_assoc]
              rfl
            · rw [upd_ne (ne_of_none e5 n6).symm]; exact s7 _ _ z3
        · rintro σ H' ⟨y13, y14, y15, y16, y17, y18, y19, y20, rfl, z1, z2, _⟩
          refine ⟨_, _, _, _, _, _, _, _, _, _, _, rfl, z1, ?_⟩
          rw [rw_, crw]
          exact z2
    · rintro σ H' ⟨y10, y11, y12, y13, y14, y15, y16, y17, y18, y19, y20, rfl, sh, e4⟩
      have e4 : H' p4 = some (.lst ((raw g r c).map V.int)) := e4
      -- those within, doubled
      refine ⟨_, rfl, p4, rfl, ⟨_, .inl (.inl e4)⟩, fun pD nD => ?_⟩
      refine lcL (K := K) (a := p4) (xs := (raw g r c).map V.int) (fun i Hx => Same H' Hx ∧ Hx pD = some (.lst (((((raw g r c).take i).filter (keepS (wh r))).map fun s => 2 * s).map V.int))) nD (fun Hx e1 e2 => ⟨e1, e2⟩) (fun i Hx _ z => .inl (.inl (z.1 _ _ e4))) (fun i x Hx hx z => ?_) (fun H6 z => ?_)
      · obtain ⟨t1, t2⟩ := z
        rw [List.getElem?_map] at hx
        cases hn : (raw g r c)[i]? with
        | none => rw [hn] at hx; cases hx
        | some s =>
          rw [hn] at hx
          cases hx
          have li := (List.getElem?_eq_some_iff.mp hn).1
          have lr := raw_len g r c
          have ft : ∀ bb, keepS (wh r) s = bb → ((raw g r c).take (i + 1)).filter (keepS (wh r)) = ((raw g r c).take i).filter (keepS (wh r)) ++ (if bb = true then [s] else []) := fun bb hb => by
            rw [List.take_add_one, hn, List.filter_append]
            congr 1
            show List.filter (keepS (wh r)) [s] = _
            rw [List.filter_cons, hb]
            cases bb <;> rfl
          refine ⟨rfl, _, rfl, _, _, rfl, rfl, _, rfl, ite2 (fun c1 => ⟨_, rfl, _, _, rfl, rfl, _, rfl, ite2 (fun c2 => ?_) (fun c2 => ?_)⟩) (fun c1 => ⟨_, rfl, iteF ?_⟩)⟩
          · have hk : keepS (wh r) s = true := by unfold keepS; rw [c1, c2]; rfl
            refine ⟨_, rfl, _, _, rfl, rfl, .inl (by decide), _, t2, ?_, fun bb o e => ?_, ?_⟩
            · rw [List.length_map, List.length_map]
              have := List.length_filter_le (keepS (wh r)) ((raw g r c).take i)
              rw [List.length_take] at this
              exact small1000 (by omega)
            · rw [upd_ne (ne_of_none e nD)]; exact t1 _ _ e
            · rw [upd_same, ft true hk, List.map_append, List.map_append]
              rfl
          · have hk : keepS (wh r) s = false := by unfold keepS; rw [c1, Bool.eq_false_iff.mpr c2]; rfl
            refine ⟨t1, ?_⟩
            rw [ft false hk]
            simpa using t2
          · have hk : keepS (wh r) s = false := by unfold keepS; rw [Bool.eq_false_iff.mpr c1]; rfl
            refine ⟨t1, ?_⟩
            rw [ft false hk]
            simpa using t2
      · obtain ⟨t1, t2⟩ := z
        rw [List.length_map, List.take_length] at t2
        refine ⟨pD, _, rfl, .inl (.inl t2), fun L hp hs p9 H9 n9 s9 g9 => ?_⟩
        have lL : L.length ≤ 10 := by
          rw [hp.length_eq, List.length_map]
          have := List.length_filter_le (keepS (wh r)) (raw g r c)
          have := raw_len g r c
          omega
        -- the middles of neighbours
        refine ⟨_, rfl, _, rfl, _, rfl, _, rfl, p9, _, rfl, .inl (.inl g9), fun p10 H10 n10 s10 g10 => ⟨_, rfl, _, rfl, p9, _, rfl, .inl (.inl (s10 _ _ g9)), fun p11 H11 n11 s11 g11 => ?_⟩⟩
        rw [cut_init] at g10
        rw [cut_tail] at g11
        have k10 := s11 _ _ g10
        refine ⟨p10, p11, _, _, rfl, .inl (.inl k10), .inl (.inl g11), fun pE nE => ?_⟩
        have lz : ((L.dropLast.zip L.tail).length) = min (L.map V.int).dropLast.length (L.map V.int).tail.length := by
          rw [List.length_zip, List.length_dropLast, List.length_dropLast, List.length_tail, List.length_tail, List.length_map]
        refine lcZ (K := K) (a := p10) (b := p11) (xs := (L.map V.int).dropLast) (ys := (L.map V.int).tail) (n := (L.dropLast.zip L.tail).length) lz (fun i Hx => Same H11 Hx ∧ Hx pE = some (.lst ((((L.dropLast.zip L.tail).take i).map fun z => (z.1 + z.2) / 2).map V.int))) nE (fun Hx e1 e2 => ⟨e1, e2⟩) (fun i Hx _ z => ⟨.inl (.inl (z.1 _ _ k10)), .inl (.inl (z.1 _ _ g11))⟩) (fun i x Hx Hy hi z hy => ?_) (fun H12 z => ?_)
        · obtain ⟨t3, t4⟩ := z
          obtain ⟨T, vx, vy, rfl, hT, rfl, hx, hy⟩ := hy
          obtain ⟨z1, z2, hz, rfl, rfl⟩ := zip_at hi hx hy
          have sT : Same Hx (upd Hx T (.tup [.int z1, .int z2])) := same_new hT
          refine ⟨T, _, rfl, .inl (.inl upd_same), rfl, _, _, rfl, _, _, rfl, rfl, ?_⟩
          refine ⟨rfl, _, rfl, _, rfl, _, _, rfl, rfl, _, _, rfl, rfl, ⟨by decide, by decide⟩, _, sT _ _ t4, ?_, fun bb o e => ?_, ?_⟩
          · rw [List.length_map, List.length_map, List.length_take]
            rw [List.length_zip, List.length_dropLast] at hi
            exact small1000 (by omega)
          · rw [upd_ne (ne_of_none e nE)]; exact (t3.trans sT) _ _ e
          · rw [upd_same, List.take_add_one, hz, List.map_append, List.map_append]
            rfl
        · obtain ⟨t3, t4⟩ := z
          rw [List.take_length] at t4
          have k9 := t3 _ _ ((s10.trans s11) _ _ g9)
          have lM : (mids L).length ≤ 10 := by
            unfold mids
            rw [List.length_map, List.length_zip, List.length_dropLast]
            omega
          refine ⟨p9, pE, _, _, rfl, rfl, k9, t4, ?_, fun p13 H13 n13 s13 g13 => ?_⟩
          · rw [List.length_map, List.length_map]
            have := lM
            unfold mids at this
            exact small64' (by omega)
          have g13 : H13 p13 = some (.lst ((L ++ mids L).map V.int)) := by rw [g13, List.map_append]; rfl
          have S13 := (sh.trans t1).trans ((s9.trans (s10.trans s11)).trans (t3.trans s13))
          obtain ⟨T, eT⟩ : ∃ T, T = L ++ mids L := ⟨_, rfl⟩
          have hend := shares_end (g := g) (r := r) (c := c) hp hs (T := T) (by rw [eT])
          rw [← eT] at g13
          refine ⟨_, rfl, p13, rfl, ⟨_, .inl (.inl g13)⟩, for_list (K := K) (a := p13) (xs := T.map V.int) (fun i σ Hx => ∃ y10 y11 y12 y13 y14 y15 y16 y17 y18 y19 y20, σ = [some (.int g), some (.ref a), some (.ref cc), some (.int r.1.1), some (.int r.1.2), some (.int r.2.1), some (.int r.2.2), some (.ref p3), some (.int (wh r)), some (.ref p13), y10, y11, y12, y13, y14, y15, y16, y17, y18, y19, y20] ∧ Hx = H13 ∧ (T.take i).filter (inC g r c) = []) ?_ ?_ ?_ ?_⟩
          · exact ⟨_, _, _, _, _, _, _, _, _, _, _, rfl, rfl, rfl⟩
          · rintro i σ Hx _ ⟨y10, y11, y12, y13, y14, y15, y16, y17, y18, y19, y20, rfl, rfl, _⟩
            exact .inl (.inl g13)
          · rintro i x σ Hx hx ⟨y10, y11, y12, y13, y14, y15, y16, y17, y18, y19, y20, rfl, rfl, z3⟩
            rw [List.getElem?_map] at hx
            cases hn : T[i]? with
            | none => rw [hn] at hx; cases hx
            | some s =>
              rw [hn] at hx
              cases hx
              refine ⟨_, rfl, p3, rfl, ⟨_, .inl (.inl (S13 _ _ g3))⟩, for_list (K := K) (a := p3) (xs := [V.ref p1, .ref p2]) (fun j σ H' => ∃ y10 y11 y12 y13 y15 y16 y18 y19 y20, σ = [some (.int g), some (.ref a), some (.ref cc), some (.int r.1.1), some (.int r.1.2), some (.int r.2.1), some (.int r.2.2), some (.ref p3), some (.int (wh r)), some (.ref p13), y10, y11, y12, y13, some (.int s), y15, y16, some (.bl (inU g r c s j)), y18, y19, y20] ∧ H' = Hx) ?_ ?_ ?_ ?_⟩
              · exact ⟨_, _, _, _, _, _, _, _, _, rfl, rfl⟩
              · rintro j σ H' _ ⟨y10, y11, y12, y13, y15, y16, y18, y19, y20, rfl, rfl⟩
                exact .inl (.inl (S13 _ _ g3))
              · rintro j x σ H' hx ⟨y10, y11, y12, y13, y15, y16, y18, y19, y20, rfl, rfl⟩
                obtain ⟨t, rfl, ht, hj⟩ := row j x hx
                have bi := bcr j
                have ej : inU g r c s (j + 1) = (inU g r c s j && inB g (2 * crd r.1 j) (2 * (crd r.2 j - crd r.1 j)) (crd c j) (wh r) s) := rfl
                generalize crd r.1 j = st at *
                generalize crd r.2 j = far at *
                generalize crd c j = num at *
                refine ⟨t, _, rfl, .inl (.inl (S13 _ _ ht)), rfl, _, _, rfl, _, _, rfl, _, _, rfl, rfl, ?_⟩
                refine ⟨_, rfl, _, _, rfl, rfl, .inr (by decide), _, rfl, _, _, rfl, rfl, .inr (by omega), _, rfl, _, rfl, _, _, rfl, rfl, .inl (by omega), _, _, rfl, rfl, ?_⟩
                refine ⟨_, rfl, _, _, rfl, rfl, .inl (by decide), _, _, rfl, rfl, _, rfl, _, _, rfl, rfl, .inr (by omega), _, rfl, _, _, rfl, rfl, .inl (by decide), _, _, rfl, rfl, _, rfl, _, _, rfl, rfl, .inr (by omega), _, _, rfl, ?_⟩
                refine ⟨_, rfl, _, rfl, ?_⟩
                rw [ej]
                have q1 : (2 * num - 1) * g * 2 * wh r = 2 * (2 * num - 1) * g * wh r := by grind
                have q2 : (2 * num + 1) * g * 2 * wh r = 2 * (2 * num + 1) * g * wh r := by grind
                cases hU : inU g r c s j with
                | false => exact iteF ⟨_, _, _, _, _, _, _, _, _, rfl, rfl⟩
                | true =>
                  refine iteT ⟨_, rfl, _, _, rfl, rfl, .inr (by decide), _, rfl, _, _, rfl, rfl, .inr (by omega), _, rfl, _, _, rfl, rfl, _, rfl, ite2 (fun c1 => ⟨_, rfl, _, _, rfl, rfl, .inr (by decide), _, rfl, _, _, rfl, rfl, .inr (by omega), _, _, rfl, rfl, ?_⟩) (fun c1 => ?_)⟩
                  · have k1 : (2 * num - 1) * g * 2 * wh r ≤ 2 * st * 2 * wh r + 2 * (far - st) * s := of_decide_eq_true c1
                    rw [q1] at k1
                    have eB : inB g (2 * st) (2 * (far - st)) num (wh r) s = decide (2 * st * 2 * wh r + 2 * (far - st) * s < (2 * num + 1) * g * 2 * wh r) := by
                      unfold inB
                      rw [decide_eq_true k1, Bool.true_and, q2]
                    rw [Bool.true_and, eB]
                    exact ⟨_, _, _, _, _, _, _, _, _, rfl, rfl⟩
                  · have k1 : ¬ (2 * num - 1) * g * 2 * wh r ≤ 2 * st * 2 * wh r + 2 * (far - st) * s := fun z => c1 (decide_eq_true z)
                    rw [q1] at k1
                    have eB : inB g (2 * st) (2 * (far - st)) num (wh r) s = false := by
                      unfold inB
                      rw [decide_eq_false k1, Bool.false_and]
                    rw [Bool.true_and, eB]
                    exact ⟨_, _, _, _, _, _, _, _, _, rfl, rfl⟩
              · rintro σ H' ⟨y10, y11, y12, y13, y15, y16, y18, y19, y20, rfl, rfl⟩
                have eC : inU g r c s 2 = inC g r c s := by
                  show ((true && inB g (2 * r.1.1) (2 * (r.2.1 - r.1.1)) c.1 (wh r) s) && inB g (2 * r.1.2) (2 * (r.2.2 - r.1.2)) c.2 (wh r) s) = _
                  rw [Bool.true_and]
                  rfl
                have ft : ((T.take (i + 1)).filter (inC g r c)) = (T.take i).filter (inC g r c) ++ (if inC g r c s = true then [s] else []) := by
                  rw [List.take_add_one, hn, List.filter_append]
                  congr 1
                  show List.filter (inC g r c) [s] = _
                  rw [List.filter_cons]
                  rfl
                show ∃ x, _
                refine ⟨_, rfl, _, rfl, ?_⟩
                show if inU g r c s 2 = true then _ else _
                rw [eC]
                refine ite2 (fun e => ?_) (fun e => ?_)
                · refine q true _ (((s1.trans s2).trans s3).trans S13) ⟨fun _ => hend.mp fun z => ?_, fun _ => rfl⟩
                  have : s ∈ T.filter (inC g r c) := List.mem_filter.mpr ⟨List.mem_of_getElem? hn, e⟩
                  rw [z] at this
                  cases this
                · rw [if_neg e, List.append_nil, z3] at ft
                  exact ⟨_, _, _, _, _, _, _, _, _, _, _, rfl, rfl, ft⟩
          · rintro σ Hx ⟨y10, y11, y12, y13, y14, y15, y16, y17, y18, y19, y20, rfl, rfl, z3⟩
            rw [List.length_map, List.take_length] at z3
            exact q false _ (((s1.trans s2).trans s3).trans S13) ⟨fun z => (nomatch z), fun z => absurd z3 (hend.mpr z)⟩

end
end
end Cl

set_option maxHeartbeats 0
namespace Cl
open PySem PySem.Spec PyProof.Rows L2
/-! the cells that a line comes through, in order -/
theorem HO1.num {g start num num' p q p' q' : Int} (hg : 0 < g) (hq : 0 < q) (hq' : 0 < q') (h : HO1 g start 0 num p q) (h' : HO1 g start 0 num' p' q') : num = num' := by
  unfold HO1 at h h'
  rw [Int.zero_mul, Int.add_zero] at h h'
  obtain ⟨a, b⟩ := h
  obtain ⟨c, d⟩ := h'
  have e1 : (2 * num - 1) * g ≤ 2 * start := by
    refine Decidable.byContradiction fun z => ?_
    have := Int.mul_lt_mul_of_pos_right (show 2 * start < (2 * num - 1) * g by omega) hq
    grind
  have e2 : 2 * start < (2 * num + 1) * g := by
    refine Decidable.byContradiction fun z => ?_
    have := Int.mul_le_mul_of_nonneg_right (show (2 * num + 1) * g ≤ 2 * start by omega) (Int.le_of_lt hq)
    grind
  have e3 : (2 * num' - 1) * g ≤ 2 * start := by
    refine Decidable.byContradiction fun z => ?_
    have := Int.mul_lt_mul_of_pos_right (show 2 * start < (2 * num' - 1) * g by omega) hq'
    grind
  have e4 : 2 * start < (2 * num' + 1) * g := by
    refine Decidable.byContradiction fun z => ?_
    have := Int.mul_le_mul_of_nonneg_right (show (2 * num' + 1) * g ≤ 2 * start by omega) (Int.le_of_lt hq')
    grind
  have k1 : 2 * num - 1 < 2 * num' + 1 := Int.lt_of_mul_lt_mul_right (a := g) (by omega) (Int.le_of_lt hg)
  have k2 : 2 * num' - 1 < 2 * num + 1 := Int.lt_of_mul_lt_mul_right (a := g) (by omega) (Int.le_of_lt hg)
  omega
theorem HO1.mono {g start step num num' p q p' q' : Int} (hg : 0 < g) (hq : 0 < q) (hq' : 0 < q') (hs : p * q' ≤ p' * q) (h : HO1 g start step num p q) (h' : HO1 g start step num' p' q') : num * step ≤ num' * step := by
  unfold HO1 at h h'
  obtain ⟨a, b⟩ := h
  obtain ⟨c, d⟩ := h'
  have gq : 0 < g * (q * q') := Int.mul_pos hg (Int.mul_pos hq hq')
  rcases Int.lt_trichotomy step 0 with z | z | z
  · have m : step * (p' * q) ≤ step * (p * q') := Int.mul_le_mul_of_nonpos_left (by omega) hs
    have b2 := Int.mul_lt_mul_of_pos_right b hq'
    have c2 := Int.mul_le_mul_of_nonneg_right c (Int.le_of_lt hq)
    have e : (2 * num' - 1) * (g * (q * q')) < (2 * num + 1) * (g * (q * q')) := by grind
    have := Int.lt_of_mul_lt_mul_right e (Int.le_of_lt gq)
    exact Int.mul_le_mul_of_nonpos_right (by omega) (by omega)
  · subst z
    simp
  · have m : step * (p * q') ≤ step * (p' * q) := Int.mul_le_mul_of_nonneg_left hs (by omega)
    have a2 := Int.mul_le_mul_of_nonneg_right a (Int.le_of_lt hq')
    have d2 := Int.mul_lt_mul_of_pos_right d hq
    have e : (2 * num - 1) * (g * (q * q')) < (2 * num' + 1) * (g * (q * q')) := by grind
    have := Int.lt_of_mul_lt_mul_right e (Int.le_of_lt gq)
    exact Int.mul_le_mul_of_nonneg_right (by omega) (by omega)
def wx (r : Ln) : Int := r.2.1 - r.1.1
def wy (r : Ln) : Int := r.2.2 - r.1.2
def cle (r : Ln) (c c' : Pt) : Prop := c.1 * wx r ≤ c'.1 * wx r ∧ c.2 * wy r ≤ c'.2 * wy r
theorem cle_share {g : Int} {r : Ln} {c c' : Pt} {p q p' q' : Int} (hg : 0 < g) (hq : 0 < q) (hq' : 0 < q') (h : HOc g r c p q) (h' : HOc g r c' p' q') (hs : p * q' ≤ p' * q) : cle r c c' :=
  ⟨HO1.mono hg hq hq' hs h.1 h'.1, HO1.mono hg hq hq' hs h.2 h'.2⟩
theorem met_total {g : Int} {r : Ln} {c c' : Pt} (hg : 0 < g) (h : Meets g r c) (h' : Meets g r c') : cle r c c' ∨ cle r c' c := by
  obtain ⟨p, q, hq, _, _, m⟩ := h
  obtain ⟨p', q', hq', _, _, m'⟩ := h'
  rcases Int.le_total (p * q') (p' * q) with z | z
  · exact .inl (cle_share hg hq hq' m m' z)
  · exact .inr (cle_share hg hq' hq m' m z)
theorem met_anti {g : Int} {r : Ln} {c c' : Pt} (hg : 0 < g) (h : Meets g r c) (h' : Meets g r c') (e : cle r c c') (e' : cle r c' c) : c = c' := by
  obtain ⟨p, q, hq, _, _, m1, m2⟩ := h
  obtain ⟨p', q', hq', _, _, m1', m2'⟩ := h'
  have key : ∀ {start step num num' : Int}, HO1 g start step num p q → HO1 g start step num' p' q' → num * step ≤ num' * step → num' * step ≤ num * step → num = num' := fun {start step num num'} a b x y => by
    by_cases z : step = 0
    · subst z
      exact HO1.num hg hq hq' a b
    · exact Int.eq_of_mul_eq_mul_right z (Int.le_antisymm x y)
  exact Prod.ext (key m1 m1' e.1 e'.1) (key m2 m2' e.2 e'.2)
theorem cle_key {g : Int} {r : Ln} {c c' : Pt} (hg : 0 < g) (h : Meets g r c) (h' : Meets g r c') (e : llt (c'.1 * wx r, c'.2 * wy r) (c.1 * wx r, c.2 * wy r) = false) : cle r c c' := by
  rcases met_total hg h h' with z | z
  · exact z
  · unfold llt at e
    simp only [decide_eq_false_iff_not] at e
    unfold cle at z ⊢
    omega
theorem uniqR {α : Type} {R : α → α → Prop} : ∀ {xs ys : List α}, xs.Nodup → ys.Nodup → xs.Pairwise R → ys.Pairwise R → (∀ a, a ∈ xs ↔ a ∈ ys) → (∀ a ∈ xs, ∀ b ∈ xs, R a b → R b a → a = b) → xs = ys
  | [], ys, _, _, _, _, m, _ => by
    cases ys with
    | nil => rfl
    | cons y ys => exact absurd ((m y).mpr List.mem_cons_self) List.not_mem_nil
  | x :: xs, [], _, _, _, _, m, _ => absurd ((m x).mp List.mem_cons_self) List.not_mem_nil
  | x :: xs, y :: ys, n, n', p, p', m, an => by
    obtain ⟨nx, n1⟩ := List.nodup_cons.mp n
    obtain ⟨ny, n2⟩ := List.nodup_cons.mp n'
    obtain ⟨px, p1⟩ := List.pairwise_cons.mp p
    obtain ⟨py, p2⟩ := List.pairwise_cons.mp p'
    have hy : y ∈ x :: xs := (m y).mpr List.mem_cons_self
    have hx : x ∈ y :: ys := (m x).mp List.mem_cons_self
    have e : x = y := by
      rcases List.mem_cons.mp hy with z | z
      · exact z.symm
      · rcases List.mem_cons.mp hx with z2 | z2
        · exact z2
        · exact an x List.mem_cons_self y hy (px y z) (py x z2)
    subst e
    congr 1
    refine uniqR n1 n2 p1 p2 (fun a => ?_) fun a ha b hb => an a (List.mem_cons_of_mem _ ha) b (List.mem_cons_of_mem _ hb)
    constructor
    · intro ha
      rcases List.mem_cons.mp ((m a).mp (List.mem_cons_of_mem _ ha)) with z | z
      · rw [z] at ha; exact absurd ha nx
      · exact z
    · intro ha
      rcases List.mem_cons.mp ((m a).mpr (List.mem_cons_of_mem _ ha)) with z | z
      · rw [z] at ha; exact absurd ha ny
      · exact z
structure IsPath (g : Int) (r : Ln) (cs ps : List Pt) : Prop where
  nd : ps.Nodup
  mem : ∀ c, c ∈ ps ↔ c ∈ cs ∧ Meets g r c
  pw : ps.Pairwise (cle r)
theorem IsPath.one {g : Int} {r : Ln} {cs ds ps qs : List Pt} (hg : 0 < g) (h : IsPath g r cs ps) (h' : IsPath g r ds qs) (m : ∀ c, c ∈ cs ↔ c ∈ ds) : ps = qs :=
  uniqR h.nd h'.nd h.pw h'.pw (fun c => (h.mem c).trans ((and_congr_left fun _ => m c).trans (h'.mem c).symm)) fun a ha b hb => met_anti hg ((h.mem a).mp ha).2 ((h.mem b).mp hb).2
theorem cle_rev {r : Ln} {c c' : Pt} : cle (r.2, r.1) c c' ↔ cle r c' c := by
  have e : ∀ a b x : Int, x * (a - b) = -(x * (b - a)) := fun a b x => by grind
  show c.1 * (r.1.1 - r.2.1) ≤ c'.1 * (r.1.1 - r.2.1) ∧ c.2 * (r.1.2 - r.2.2) ≤ c'.2 * (r.1.2 - r.2.2) ↔ c'.1 * (r.2.1 - r.1.1) ≤ c.1 * (r.2.1 - r.1.1) ∧ c'.2 * (r.2.2 - r.1.2) ≤ c.2 * (r.2.2 - r.1.2)
  rw [e r.1.1 r.2.1, e r.1.1 r.2.1, e r.1.2 r.2.2, e r.1.2 r.2.2]
  omega
theorem IsPath.rev {g : Int} {r : Ln} {cs ps : List Pt} (h : IsPath g r cs ps) : IsPath g (r.2, r.1) cs ps.reverse :=
  ⟨List.pairwise_reverse.mpr (h.nd.imp fun z => z.symm), fun c => by rw [List.mem_reverse, h.mem c, Meets.rev], List.pairwise_reverse.mpr (h.pw.imp fun z => cle_rev.mpr z)⟩
theorem met_first {g : Int} {r : Ln} (hg : 0 < g) : HOc g r (crn g r.1) 0 1 := by
  refine ⟨(in_cell hg (by decide)).mp ?_, (in_cell hg (by decide)).mp ?_⟩ <;> simp [crn]
theorem IsPath.head {g : Int} {r : Ln} {cs ps : List Pt} (hg : 0 < g) (h : IsPath g r cs ps) (hc : crn g r.1 ∈ cs) : ps.head? = some (crn g r.1) := by
  have hm : crn g r.1 ∈ ps := (h.mem _).mpr ⟨hc, 0, 1, by decide, by decide, by decide, met_first hg⟩
  cases ps with
  | nil => cases hm
  | cons x xs =>
    rcases List.mem_cons.mp hm with z | z
    · rw [z]; rfl
    · have a := (List.pairwise_cons.mp h.pw).1 _ z
      have mx_ := ((h.mem x).mp List.mem_cons_self).2
      obtain ⟨p, q, hq, h0, h1, m⟩ := id mx_
      have b : cle r (crn g r.1) x := cle_share hg (by decide) hq (met_first hg) m (by omega)
      rw [met_anti hg mx_ ((h.mem _).mp hm).2 a b]
      rfl
theorem IsPath.last {g : Int} {r : Ln} {cs ps : List Pt} (hg : 0 < g) (h : IsPath g r cs ps) (hc : crn g r.2 ∈ cs) : ps.getLast? = some (crn g r.2) := by
  have := h.rev.head hg (r := (r.2, r.1)) hc
  rwa [List.head?_reverse] at this
/-! the span of whole shares -/
def mx1 (n : Int) : Int := if (n.natAbs : Int) > 1 then (n.natAbs : Int) else 1
theorem mx1_pos (n : Int) : 0 < mx1 n := by unfold mx1; split <;> omega
theorem mx1_abs {n : Int} (h : n ≠ 0) : mx1 n = n.natAbs := by unfold mx1; split <;> omega
def spW (r : Ln) : Int := 2 * mx1 (wx r) * mx1 (wy r)
theorem spW_pos (r : Ln) : 0 < spW r := Int.mul_pos (Int.mul_pos (by decide) (mx1_pos _)) (mx1_pos _)
theorem by_x {r : Ln} (h : wx r ≠ 0) : spW r = 2 * (wx r).natAbs * (spW r / mx1 (2 * wx r)) ∧ 0 < spW r / mx1 (2 * wx r) := by
  have e : spW r = mx1 (2 * wx r) * mx1 (wy r) := by
    unfold spW
    rw [mx1_abs h, mx1_abs (show 2 * wx r ≠ 0 by omega), Int.natAbs_mul]
    rfl
  have p := mx1_pos (2 * wx r)
  have e2 : spW r / mx1 (2 * wx r) = mx1 (wy r) := by rw [e, Int.mul_ediv_cancel_left _ (by omega)]
  rw [e2]
  refine ⟨?_, mx1_pos _⟩
  unfold spW
  rw [mx1_abs h]
theorem by_y {r : Ln} (h : wy r ≠ 0) : spW r = 2 * (wy r).natAbs * (spW r / mx1 (2 * wy r)) ∧ 0 < spW r / mx1 (2 * wy r) := by
  have e : spW r = mx1 (2 * wy r) * mx1 (wx r) := by
    unfold spW
    rw [mx1_abs h, mx1_abs (show 2 * wy r ≠ 0 by omega), Int.natAbs_mul, Int.mul_assoc, Int.mul_comm (mx1 (wx r)), ← Int.mul_assoc]
    rfl
  have p := mx1_pos (2 * wy r)
  have e2 : spW r / mx1 (2 * wy r) = mx1 (wx r) := by rw [e, Int.mul_ediv_cancel_left _ (by omega)]
  rw [e2]
  refine ⟨?_, mx1_pos _⟩
  unfold spW
  rw [mx1_abs h, Int.mul_assoc, Int.mul_comm (mx1 (wx r)), ← Int.mul_assoc]
theorem ax_up {g start step num W B s : Int} (hs : 0 < step) (hW : W = 2 * step.natAbs * B) :
    HO1 g start step num s (2 * W) ↔ 2 * ((2 * num - 1) * g - 2 * start) * B ≤ s ∧ s ≤ 2 * ((2 * num + 1) * g - 2 * start) * B - 1 := by
  have e : W = 2 * step * B := by rw [hW, Int.natAbs_of_nonneg (by omega)]
  subst e
  have s2 : 0 < 4 * step := by omega
  unfold HO1
  have a1 : (2 * num - 1) * g * (2 * (2 * step * B)) ≤ 2 * (start * (2 * (2 * step * B)) + step * s) ↔ 2 * ((2 * num - 1) * g - 2 * start) * B ≤ s := by
    constructor
    · intro h
      refine Int.le_of_mul_le_mul_left (a := 2 * step) ?_ (by omega)
      grind
    · intro h
      have := Int.mul_le_mul_of_nonneg_left h (show 0 ≤ 2 * step by omega)
      grind
  have a2 : 2 * (start * (2 * (2 * step * B)) + step * s) < (2 * num + 1) * g * (2 * (2 * step * B)) ↔ s < 2 * ((2 * num + 1) * g - 2 * start) * B := by
    constructor
    · intro h
      refine Int.lt_of_mul_lt_mul_left (a := 2 * step) ?_ (by omega)
      grind
    · intro h
      have := Int.mul_lt_mul_of_pos_left h (show 0 < 2 * step by omega)
      grind
  rw [a1, a2]
  omega
theorem ax_down {g start step num W B s : Int} (hs : step < 0) (hW : W = 2 * step.natAbs * B) :
    HO1 g start step num s (2 * W) ↔ 1 - 2 * ((2 * num + 1) * g - 2 * start) * B ≤ s ∧ s ≤ 0 - 2 * ((2 * num - 1) * g - 2 * start) * B := by
  obtain ⟨t, rfl⟩ : ∃ t, step = -t := ⟨-step, by omega⟩
  have e : W = 2 * t * B := by rw [hW, Int.natAbs_neg, Int.natAbs_of_nonneg (by omega)]
  subst e
  unfold HO1
  have a1 : (2 * num - 1) * g * (2 * (2 * t * B)) ≤ 2 * (start * (2 * (2 * t * B)) + -t * s) ↔ 2 * ((2 * num - 1) * g - 2 * start) * B ≤ -s := by
    constructor
    · intro h
      refine Int.le_of_mul_le_mul_left (a := 2 * t) ?_ (by omega)
      grind
    · intro h
      have := Int.mul_le_mul_of_nonneg_left h (show 0 ≤ 2 * t by omega)
      grind
  have a2 : 2 * (start * (2 * (2 * t * B)) + -t * s) < (2 * num + 1) * g * (2 * (2 * t * B)) ↔ -s < 2 * ((2 * num + 1) * g - 2 * start) * B := by
    constructor
    · intro h
      refine Int.lt_of_mul_lt_mul_left (a := 2 * t) ?_ (by omega)
      grind
    · intro h
      have := Int.mul_lt_mul_of_pos_left h (show 0 < 2 * t by omega)
      grind
  rw [a1, a2]
  omega
theorem ax_zero {g start num W s : Int} (hW : 0 < W) : HO1 g start 0 num s (2 * W) ↔ (2 * num - 1) * g - 2 * start ≤ 0 ∧ 0 < (2 * num + 1) * g - 2 * start := by
  unfold HO1
  rw [Int.zero_mul, Int.add_zero]
  have a1 : (2 * num - 1) * g * (2 * W) ≤ 2 * (start * (2 * W)) ↔ (2 * num - 1) * g - 2 * start ≤ 0 := by
    constructor
    · intro h
      have := Int.le_of_mul_le_mul_right (a := 2 * W) (b := (2 * num - 1) * g) (c := 2 * start) (by grind) (by omega)
      omega
    · intro h
      have := Int.mul_le_mul_of_nonneg_right (show (2 * num - 1) * g ≤ 2 * start by omega) (show 0 ≤ 2 * W by omega)
      grind
  have a2 : 2 * (start * (2 * W)) < (2 * num + 1) * g * (2 * W) ↔ 0 < (2 * num + 1) * g - 2 * start := by
    constructor
    · intro h
      have := Int.lt_of_mul_lt_mul_right (a := 2 * W) (b := 2 * start) (c := (2 * num + 1) * g) (by grind) (by omega)
      omega
    · intro h
      have := Int.mul_lt_mul_of_pos_right (show 2 * start < (2 * num + 1) * g by omega) (show 0 < 2 * W by omega)
      grind
  rw [a1, a2]
/-- a line that meets a cell does so at a whole share -/
theorem met_whole {g : Int} {r : Ln} {c : Pt} (h : Meets g r c) : ∃ s, (0 ≤ s ∧ s ≤ 2 * spW r) ∧ HOc g r c s (2 * spW r) := by
  obtain ⟨p, q, hq, p0, p1, m⟩ := h
  have W0 := spW_pos r
  obtain ⟨e, he⟩ : ∃ e, e = spW r * p / q := ⟨_, rfl⟩
  have e1 : e * q ≤ spW r * p := by rw [he]; exact Int.ediv_mul_le _ (by omega)
  have e2 : spW r * p < (e + 1) * q := by rw [he]; exact Int.lt_ediv_add_one_mul_self _ hq
  have p0' : 0 ≤ spW r * p := Int.mul_nonneg (by omega) p0
  have p1' : spW r * p ≤ spW r * q := Int.mul_le_mul_of_nonneg_left p1 (by omega)
  have e0 : 0 ≤ e := by rw [he]; exact Int.ediv_nonneg p0' (by omega)
  by_cases z : e * q = spW r * p
  · refine ⟨2 * e, ⟨by omega, ?_⟩, ?_⟩
    · have : e ≤ spW r := Int.le_of_mul_le_mul_right (a := q) (by rw [z]; exact p1') hq
      omega
    · have key : ∀ {start step num : Int}, HO1 g start step num p q → HO1 g start step num (2 * e) (2 * spW r) := fun {start step num} a => by
        have a2 := (HO1.scale (k := 2 * spW r) (by omega)).mpr a
        refine (HO1.scale (k := q) hq).mp ?_
        rw [show 2 * e * q = p * (2 * spW r) by grind, show 2 * spW r * q = q * (2 * spW r) by grind]
        exact a2
      exact ⟨key m.1, key m.2⟩
  · have lt : e * q < spW r * p := by omega
    have l2 : e < spW r := Int.lt_of_mul_lt_mul_right (a := q) (by omega) (by omega)
    refine ⟨2 * e + 1, ⟨by omega, by omega⟩, ?_, ?_⟩
    · refine row_mid (a := 2 * e) (b := 2 * e + 2) W0 hq m.1 (by grind) (by grind) (by omega) (by omega) fun h side _ => ?_
      obtain ⟨w1, w2⟩ := by_x (r := r) h
      rcases Int.lt_or_gt_of_ne h with z2 | z2
      · refine ⟨-((side - 2 * r.1.1) * (spW r / mx1 (2 * wx r))), ?_, by omega⟩
        have : ((wx r).natAbs : Int) = -(wx r) := by have z2 : wx r < 0 := z2; omega
        rw [this] at w1
        generalize spW r / mx1 (2 * wx r) = B at w1 ⊢
        rw [w1]
        show 2 * wx r * _ = _
        grind
      · refine ⟨(side - 2 * r.1.1) * (spW r / mx1 (2 * wx r)), ?_, by omega⟩
        have : ((wx r).natAbs : Int) = wx r := by have z2 : 0 < wx r := z2; omega
        rw [this] at w1
        generalize spW r / mx1 (2 * wx r) = B at w1 ⊢
        rw [w1]
        show 2 * wx r * _ = _
        grind
    · refine row_mid (a := 2 * e) (b := 2 * e + 2) W0 hq m.2 (by grind) (by grind) (by omega) (by omega) fun h side _ => ?_
      obtain ⟨w1, w2⟩ := by_y (r := r) h
      rcases Int.lt_or_gt_of_ne h with z2 | z2
      · refine ⟨-((side - 2 * r.1.2) * (spW r / mx1 (2 * wy r))), ?_, by omega⟩
        have : ((wy r).natAbs : Int) = -(wy r) := by have z2 : wy r < 0 := z2; omega
        rw [this] at w1
        generalize spW r / mx1 (2 * wy r) = B at w1 ⊢
        rw [w1]
        show 2 * wy r * _ = _
        grind
      · refine ⟨(side - 2 * r.1.2) * (spW r / mx1 (2 * wy r)), ?_, by omega⟩
        have : ((wy r).natAbs : Int) = wy r := by have z2 : 0 < wy r := z2; omega
        rw [this] at w1
        generalize spW r / mx1 (2 * wy r) = B at w1 ⊢
        rw [w1]
        show 2 * wy r * _ = _
        grind
end Cl

set_option maxHeartbeats 0
namespace Cl
open PySem PySem.Spec PyProof.Rows L2
open GxR (TabB TabG)

theorem zip_snd {α β : Type} : ∀ {as : List α} {bs : List β}, as.length = bs.length → (as.zip bs).map (·.2) = bs
  | [], [], _ => rfl
  | a :: as, b :: bs, h => by
    rw [List.zip_cons_cons, List.map_cons, zip_snd (by simpa using h)]
theorem allAt_of {α : Type} {R : V → α → Prop} : ∀ {l : List (V × α)}, (∀ p ∈ l, R p.1 p.2) → AllAt R (l.map (·.1)) (l.map (·.2))
  | [], _ => .nil
  | p :: l, h => .cons (h p List.mem_cons_self) (allAt_of fun q hq => h q (List.mem_cons_of_mem _ hq))
def BdO (r : Ln) : Prop := BdN 3000000 r.1 ∧ BdN 3000000 r.2
section
variable {P : Program} {w : World} {K : PySem.W.Frag} {mg : Str → Option Value} {base : Heap}

end
end Cl

set_option maxHeartbeats 0
namespace Cl
open PySem PySem.Spec PyProof.Rows L2
open GxR (TabB TabG)

def qP : Str := (("_law_path" : Str) ++ ".<locals>.") ++ "<lambda>"
def sg (n : Int) : Int := (if 0 < n then 1 else 0) - (if n < 0 then 1 else 0)
def keyS (r : Ln) (c : Pt) : Int := sg (wx r) * c.1 + sg (wy r) * c.2
def keyP (r : Ln) (p : V × Pt) : V × PyData := (p.1, .int (keyS r p.2))
theorem keyLe_int {v w : V} {m n : Int} (h : keyLe (v, .int m) (w, .int n)) : m ≤ n := by
  unfold keyLe PySem.W.dataLe PySem.W.sortLe at h
  have h2 : (!PyProof.Rows.lexLt itemOrd (PySem.W.keyToks (.int n)) (PySem.W.keyToks (.int m))) = true := h
  simp [PySem.W.keyToks, PyProof.Rows.lexLt, itemLt] at h2
  omega
theorem sg_mono {n a b : Int} (h : a * n ≤ b * n) : sg n * a ≤ sg n * b := by
  unfold sg
  rcases Int.lt_trichotomy n 0 with c | c | c
  · rw [if_neg (by omega), if_pos c]
    have : b ≤ a := Int.le_of_mul_le_mul_right (a := -n) (by rw [Int.mul_neg, Int.mul_neg]; omega) (by omega)
    omega
  · rw [if_neg (by omega), if_neg (by omega)]
    omega
  · rw [if_pos c, if_neg (by omega)]
    have := canR c h
    omega
theorem sg_eq {n a b : Int} (h : sg n * a = sg n * b) : a * n = b * n := by
  unfold sg at h
  rcases Int.lt_trichotomy n 0 with c | c | c
  · rw [if_neg (by omega), if_pos c] at h
    have : a = b := by omega
    rw [this]
  · rw [c]; omega
  · rw [if_pos c, if_neg (by omega)] at h
    have : a = b := by omega
    rw [this]
theorem cle_sg {g : Int} {r : Ln} {c c' : Pt} (hg : 0 < g) (h : Meets g r c) (h' : Meets g r c') (e : keyS r c ≤ keyS r c') : cle r c c' := by
  rcases met_total hg h h' with z | z
  · exact z
  · have h1 := sg_mono z.1
    have h2 := sg_mono z.2
    unfold keyS at e
    have e1 := sg_eq (n := wx r) (a := c.1) (b := c'.1) (by omega)
    have e2 := sg_eq (n := wy r) (a := c.2) (b := c'.2) (by omega)
    exact ⟨by omega, by omega⟩
theorem alikeI {ds : List PyData} (h : ∀ d ∈ ds, ∃ n : Int, d = .int n) : PySem.W.AllAlike ds ∧ PySem.W.Sortable ds := by
  refine ⟨fun d hd d' hd' => ?_, .inr fun d hd => ?_⟩
  · obtain ⟨s, e⟩ := h d hd
    obtain ⟨s', e'⟩ := h d' hd'
    rw [e, e']
    rfl
  · obtain ⟨s, e⟩ := h d hd
    exact ⟨(by rw [e]; intro z; cases z), fun xs => by rw [e]; intro z; cases z⟩
def spPath24 (K : PySem.W.Frag) (PI : Addr) : Sp := fun vs H Q _ => ∃ g v u r cs, vs = [.int g, v, u] ∧ (0 < g ∧ g ≤ 1000) ∧ AtL K H v r ∧ AtP K H u cs ∧ BdR 1100000 r ∧ (∀ c ∈ cs, BdN 1000000 c) ∧ cs.Nodup ∧ cs.length ≤ 1000 ∧ LT H PI qP ∧
  ∀ w ps H', SameX PI H H' → LT H' PI qP → AtP K H' w ps → IsPath g r cs ps → Q w H'

section
variable {P : Program} {w : World} {K : PySem.W.Frag} {mg : Str → Option Value} {base : Heap}

theorem ok_law_path {f c Pt : Addr} {fd : FuncData} (F : Fun K "_law_path" "_law_path" s_law_path f fd) (hc : fd.code = .ref c) (TB : GxR.TabB base mg c Pt) (T : Bt mg) (D_law_met : Def P w K mg base 1 "_law_met" ["_law_grain_here", "_law_line_here", "_law_corner"] (spMet24 K)) (D_law_sign : Def P w K mg base 1 "_law_sign" ["_law_number"] spSign) :
    FnG P w K mg base CX0 6 f fd ["_law_grain_here", "_law_line_here", "_law_corners_here"] (spPath24 K Pt) := by
  refine okGT (k := 5) F hc sc_law_path (fun vs H Q E h => ?_) (fun A outer s H vs Q E hr h => ?_)
  · obtain ⟨g, v, u, r, cs, rfl, _⟩ := h
    rfl
  · obtain ⟨g, _, _, r, cs, rfl, hg, hL, hP, bl, bc, nd, len, tI, q⟩ := h
    refine ⟨_, (pss_cons (ps_asg (pv 1) (pg_tup (by rfl) (pgs_cons (pg_tup (by rfl) (pgs_cons (pg_name (i := 3) sc_law_path.nd rfl (.inl rfl)) (pgs_cons (pg_name (i := 4) sc_law_path.nd rfl (.inl rfl)) pgs_nil))) (pgs_cons (pg_tup (by rfl) (pgs_cons (pg_name (i := 5) sc_law_path.nd rfl (.inl rfl)) (pgs_cons (pg_name (i := 6) sc_law_path.nd rfl (.inl rfl)) pgs_nil))) pgs_nil))))
      (pss_cons (ps_setLc (i := 7) (own := [("_law_corner", 8)]) (g := gName 8) (by rfl) sc_law_path.nd rfl rfl (sw_true rfl rfl rfl (by decide +kernel)) (pi_tup (pv 2)) (blkOk_by (own := [("_law_corner", 8)]) (N := ["_law_grain_here", "_law_line_here", "_law_corners_here", "_law_x", "_law_y", "_law_u", "_law_v", "_law_some", "_law_corner", "_law_right", "_law_up"]) (sc := defScope s_law_path) (by decide +kernel)) (fun _ _ _ _ _ => (pg_name (i := 8) sc_law_path.nd rfl (.inl rfl))) (fun _ _ _ _ _ => (pts_one (pt_val (callD D_law_met (hr.mono (by decide)) (pa_cons (pv 0) (pa_cons (pv 1) (pa_cons (pv 8) pa_nil))))))) (fun _ _ _ _ _ => (pv 8)))
      (pss_cons (ps_asg (tupN (pa_cons (callD D_law_sign (hr.mono (by decide)) (pa_cons (pe_op op_sub (pv 5) (pv 3)) pa_nil)) (pa_cons (callD D_law_sign (hr.mono (by decide)) (pa_cons (pe_op op_sub (pv 6) (pv 4)) pa_nil)) pa_nil))) (pg_tup (by rfl) (pgs_cons (pg_name (i := 9) sc_law_path.nd rfl (.inr rfl)) (pgs_cons (pg_name (i := 10) sc_law_path.nd rfl (.inr rfl)) pgs_nil))))
      (pss_one (ps_ret (pe_callTy call_tuple_ofN (by rfl) T.tuple (by decide +kernel) (pa_cons (pe_sortKey (a := "_law_at") (k := 2) (P := Pt) (c := c) (hr.mono (by decide)) (by rfl) T.sorted TB rfl (show LamK (defScope s_law_path) _ "_law_at" from lamK_by (by decide +kernel)) (show ("_law_at" : Str) ∉ (["_law_grain_here", "_law_line_here", "_law_corners_here", "_law_x", "_law_y", "_law_u", "_law_v", "_law_some", "_law_corner", "_law_right", "_law_up"] : List Str) by decide +kernel) rfl (fun _ _ _ _ _ _ => rfl) (pv 7) (fun A outer s H f c' hr' => (pe_op op_add (pe_op op_mul (pe_var (i := 10) rfl (.inr (.inr rfl))) (pe_ix (ix_tupk (K := K) rfl) (pe_var (i := 0) rfl (.inl rfl)) pe_int (fun _ _ => rfl))) (pe_op op_mul (pe_var (i := 11) rfl (.inr (.inr rfl))) (pe_ix (ix_tupk (K := K) rfl) (pe_var (i := 0) rfl (.inl rfl)) pe_int (fun _ _ => rfl)))))) pa_nil))))))), ?_⟩
    obtain ⟨a, vs, rfl, hS, hall⟩ := hP
    obtain ⟨aL, u1, u2, rfl, hSL, ⟨b1, rfl, hb1⟩, ⟨b2, rfl, hb2⟩⟩ := id hL
    refine ⟨_, rfl, aL, _, rfl, hSL, rfl, _, _, rfl, b1, _, rfl, hb1, rfl, _, _, rfl, _, _, rfl, rfl, _, _, rfl, b2, _, rfl, hb2, rfl, _, _, rfl, _, _, rfl, rfl, rfl, ?_⟩
    refine ⟨_, rfl, a, rfl, ⟨vs, hS⟩, fun pD nD => ?_⟩
    refine lcT (K := K) (a := a) (xs := vs) (fun i H' => Same H H' ∧ ∃ ws ds, H' pD = some (.lst ws) ∧ AllAt (At2 K H') ws ds ∧ ds.Sublist (cs.take i) ∧ ∀ c, c ∈ ds ↔ c ∈ cs.take i ∧ Meets g r c) nD (fun H' e1 e2 => ⟨e1, [], [], e2, .nil, .slnil, fun c => by simp⟩) (fun i H' _ z => seT z.1 hS) (fun i x H' hx z => ?_) (fun H1 z => ?_)
    · obtain ⟨t1, ws, ds, t2, t3, t4, t5⟩ := z
      obtain ⟨c, hc, hxc⟩ := hall.get hx
      have cm := List.mem_of_getElem? hc
      have et : cs.take (i + 1) = cs.take i ++ [c] := by rw [List.take_add_one, hc]; rfl
      refine ⟨rfl, .int g, rfl, _, rfl, _, rfl, g, _, x, r, c, rfl, hL.same t1, hxc.same t1, hg.1, hg.2, bl, bc c cm, fun b H2 s2 hb => ⟨_, rfl, ?_⟩⟩
      have ld : ds.length ≤ 1000 := Nat.le_trans t4.length_le (Nat.le_trans (by rw [List.length_take]; exact Nat.min_le_right ..) len)
      cases b with
      | true =>
        have k2 := s2 _ _ t2
        refine iteT ⟨_, rfl, ws, k2, by rw [t3.length, sizeLine_eq]; omega, fun b o e => ?_, ws ++ [x], ds ++ [c], upd_same, ?_, ?_, fun c' => ?_⟩
        · rw [upd_ne (ne_of_none e nD)]; exact (t1.trans s2) _ _ e
        · exact (t3.map fun _ _ z => (z.same s2).upd k2).app (.cons (((hxc.same t1).same s2).upd k2) .nil)
        · rw [et]; exact t4.append (List.Sublist.refl _)
        · rw [et, List.mem_append, List.mem_append, t5, List.mem_singleton]
          have := hb.mp rfl
          constructor
          · rintro (z | rfl)
            · exact ⟨.inl z.1, z.2⟩
            · exact ⟨.inr rfl, this⟩
          · rintro ⟨z | z, m⟩
            · exact .inl ⟨z, m⟩
            · exact .inr z
      | false =>
        refine iteF ⟨t1.trans s2, ws, ds, s2 _ _ t2, t3.map fun _ _ z => z.same s2, ?_, fun c' => ?_⟩
        · rw [et]; exact t4.trans (List.sublist_append_left ..)
        · rw [et, t5, List.mem_append, List.mem_singleton]
          constructor
          · rintro ⟨z, m⟩
            exact ⟨.inl z, m⟩
          · rintro ⟨z | rfl, m⟩
            · exact ⟨z, m⟩
            · exact absurd (hb.mpr m) Bool.false_ne_true
    obtain ⟨s1, ws, ds, eD, hall1, t4, t5⟩ := z
    rw [hall.length, List.take_length] at t4 t5
    refine ⟨_, rfl, _, rfl, _, _, rfl, rfl, wx r, rfl, _, rfl, _, rfl, _, _, rfl, rfl, wy r, rfl, (by show 2 ≤ sizeLine; decide), fun p2 H2 n2 s2 e2 => ?_⟩
    refine ⟨p2, _, rfl, .inl (.inl e2), rfl, _, _, rfl, _, _, rfl, rfl, ?_⟩
    have tI1 := (s1.trans s2).lt tI
    have eD2 := s2 _ _ eD
    have hall2 : AllAt (At2 K H2) ws ds := hall1.map fun _ _ z => z.same s2
    have hl := hall2.length
    obtain ⟨Z, eZ⟩ : ∃ Z, Z = ws.zip ds := ⟨_, rfl⟩
    have ez : (Z.map (keyP r)).map (·.1) = ws := by
      rw [List.map_map, eZ]
      exact zip_fst hl
    have isP : ∀ d ∈ (Z.map (keyP r)).map (·.2), ∃ n : Int, d = .int n := fun d hd => by
      rw [List.map_map] at hd
      obtain ⟨p, _, rfl⟩ := List.mem_map.mp hd
      exact ⟨keyS r p.2, rfl⟩
    have al := alikeI isP
    refine ⟨.ref pD, rfl, pD, Z.map (keyP r), rfl, by rw [ez]; exact .inl (.inl eD2), al.1, al.2, fun p hp => ?_, tI1, fun i x k H3 hx sx lt => ?_, fun bs' p H3 H4 pm pw sx lt nn s4 g4 => ?_⟩
    · obtain ⟨z, _, rfl⟩ := List.mem_map.mp hp
      show (PyData.int _).depth ≤ 60
      simp [PyData.depth]
    · rw [List.getElem?_map] at hx
      cases hz : Z[i]? with
      | none => rw [hz] at hx; cases hx
      | some pr =>
        rw [hz] at hx
        obtain ⟨v0, c0⟩ := pr
        injection hx with hx
        injection hx with hx1 hx2
        subst hx1 hx2
        have hm : (v0, c0) ∈ ws.zip ds := by rw [← eZ]; exact List.mem_of_getElem? hz
        have hc0 : At2 K H2 v0 c0 := allAt_zip hall2 _ hm
        have hc0m : c0 ∈ cs := ((t5 c0).mp (List.of_mem_zip hm).2).1
        obtain ⟨a, rfl, ha⟩ := hc0.sameX tI1 sx
        obtain ⟨⟨b1, b2⟩, b3, b4⟩ := bc c0 hc0m
        refine ⟨_, rfl, _, rfl, a, _, 0, _, rfl, rfl, ha, rfl, _, _, rfl, rfl, .inr (by omega), _, rfl, _, rfl, a, _, 1, _, rfl, rfl, ha, rfl, _, _, rfl, rfl, .inr (by omega), _, _, rfl, rfl, ?_⟩
        exact ⟨.int _, Same.refl _⟩
    · obtain ⟨Z', pZ, eZ'⟩ := perm_map_of pm
      subst eZ'
      have hZ : ∀ p ∈ Z', At2 K H4 p.1 p.2 := fun p hp => by
        have hm : p ∈ ws.zip ds := by rw [← eZ]; exact pZ.mem_iff.mp hp
        exact ((allAt_zip hall2 _ hm).sameX tI1 sx).same s4
      have hw : AllAt (At2 K H4) (Z'.map (·.1)) (Z'.map (·.2)) := allAt_of hZ
      have pc : (Z'.map (·.2)).Perm ds := by
        have := pZ.map (·.2)
        rw [eZ, zip_snd hl] at this
        exact this
      have pwc : (Z'.map (·.2)).Pairwise (fun c c' => keyS r c ≤ keyS r c') := by
        rw [List.pairwise_map] at pw ⊢
        exact pw.imp fun h => keyLe_int h
      have inP : ∀ c, c ∈ Z'.map (·.2) ↔ c ∈ cs ∧ Meets g r c := fun c => (pc.mem_iff).trans (t5 c)
      refine ⟨p, _, rfl, .inl (.inl g4), fun pT H5 n5 s5 g5 => ?_⟩
      refine q _ _ H5 (((s1.trans s2).x.trans sx).trans (s4.trans s5).x) ((s4.trans s5).lt lt) ⟨pT, Z'.map (·.1), rfl, ?_, hw.map fun _ _ z => z.same s5⟩ ⟨pc.nodup_iff.mpr (t4.nodup nd), inP, List.Pairwise.imp_of_mem (fun {c c'} hc hc' e => cle_sg hg.1 ((inP c).mp hc).2 ((inP c').mp hc').2 e) pwc⟩
      rw [List.map_map] at g5
      exact .inl (.inl g5)

end
end Cl

/-! t[::k], k an expression that is 1 or -1 -/
namespace Cl
open PySem PySem.Spec PyProof.Rows L2 HT
theorem one_places (n : Nat) : Builtin.Slice.slicePlaces 0 (n : Int) 1 = n := by
  unfold Builtin.Slice.slicePlaces
  rw [if_pos (by decide)]
  split
  · rw [Int.ediv_one]; omega
  · omega
section
variable {prog : Program} {w : World} {A : Around} {E : Value → Shared → Prop} {s : Shared}
theorem getItem_tuple_one {t sl : Addr} {items : Array Value} {tk : Tok} {Q : Value → Shared → Prop} (ht : IsTup s.heap t items)
    (hs : s.heap.IsSliceOf sl .none .none (.int 1 tk))
    (h : Q (.ref t) s) :
    wpAny (model prog w) A (getItem (.ref t) (.ref sl)) Q E s := by
  obtain ⟨os, hos, hcs, hds⟩ := id hs
  have isS : s.TypeIs (.ref sl) "slice" := ⟨os, hos, hcs⟩
  unfold getItem
  try with_reducible refine wpAny_holding ?_
  first | refine wpAny_bind (wpAny_pure ?_) | skip
  refine wpAny_bind (wpAny_sequenceKey ht.typeIs (by decide) ?_)
  refine wpAny_bind (wpAny_callSpecial?_slot (name := Str.ofString "__getitem__") ht.typeIs PyProof.Rows.slot_tuple_getitem
    (wpAny_call_entry PyProof.Rows.slot_tuple_getitem ht.typeIs entry_tuple_getitem ?_ (args_tuple_getitem _ _)))
  show wpAny _ _ (Builtin.Tuple.tupleItemsOf (.ref t) >>= _) _ _ s
  refine wpAny_bind (tupleItemsOf_ ht ?_)
  refine wpAny_bind (wpAny_typeOf isS ?_)
  rw [if_pos (by decide)]
  have applied : ∀ (A' : Around) (E' : Value → Shared → Prop) (Q' : Int × Int × Nat → Shared → Prop), Q' (0, 1, items.size) s →
      wpAny (model prog w) A' (Builtin.Slice.sliceApplied (.ref sl) (pure (items.size : Int))) Q' E' s := fun A' E' Q' q => by
    unfold Builtin.Slice.sliceApplied Builtin.Slice.sliceFields
    refine wpAny_bind (wpAny_bind (wpAny_field hos hds (x := .none) rfl (wpAny_bind (wpAny_field hos hds (x := .none) rfl (wpAny_bind (wpAny_field hos hds (x := .int 1 tk) rfl (wpAny_pure ?_)))))))
    refine wpAny_bind (slicePart_ (.int 1 tk) ?_)
    show wpAny _ _ (if ((1 : Int) == 0) = true then _ else _) _ _ s
    rw [if_neg (by decide)]
    refine wpAny_bind (slicePart_ .none (wpAny_bind (slicePart_ .none (wpAny_bind (wpAny_pure ?_)))))
    show wpAny _ _ (match Builtin.Slice.sliceAdjust none none 1 (items.size : Int) with | (lo, hi) => pure (lo, (1 : Int), Builtin.Slice.slicePlaces lo hi 1)) _ _ s
    show wpAny _ _ (pure ((0 : Int), (1 : Int), Builtin.Slice.slicePlaces 0 (items.size : Int) 1)) _ _ s
    rw [one_places]
    exact wpAny_pure q
  refine wpAny_bind (applied _ _ _ ?_)
  have hyes : ((0 : Int) == 0 && (1 : Int) == 1 && items.size == items.size) = true := by simp
  show wpAny _ _ (if ((0 : Int) == 0 && (1 : Int) == 1 && items.size == items.size) = true then _ else _) _ _ s
  rw [if_pos hyes]
  refine wpAny_bind ?_
  show wpAny _ _ (typeOf (.ref t) >>= fun T => pure (T == .type "tuple")) _ _ s
  refine wpAny_bind (wpAny_typeOf ht.typeIs (wpAny_pure ?_))
  first
    | rw [if_pos (by decide)]
    | simp only [beq_self_eq_true, if_true]
  first
    | exact wpAny_bind (wpAny_rule (wpAny_pure ⟨_, rfl, wpAny_pure h⟩))
    | exact wpAny_bind (wpAny_rule (wpAny_bind (wpAny_pure (wpAny_pure ⟨_, rfl, wpAny_pure h⟩))))
end
section
variable {X : Cx} {e e2 : Expr} {te te2 : TE}
def tStepT (K : PySem.W.Frag) (te te2 : TE) : TE := fun σ H Q => te σ H fun x H1 => te2 σ H1 fun y H2 => ∃ a xs, x = .ref a ∧ SqT K H2 a xs ∧ ((y = .int 1 ∧ Q (.ref a) H2) ∨ (y = .int (-1) ∧ New H2 (.tup xs.reverse) Q))
theorem pe_stepT {p2 pos : Pos} (he : PE X e te) (he2 : PE X e2 te2) :
    PE X (.Subscript e (.Slice none none (some e2) p2) pos) (tStepT X.K te te2) := by
  constructor
  intro pins s σ H Q I h
  refine Subscript_ (thn (he.run pins s σ H _ I h) fun v s1 ⟨x, H1, I1, r1, q1⟩ => ?_)
  refine wpAny_Slice ?_
  rw [evalPart_none]
  refine wpAny_pure ?_
  refine wpAny_pure ?_
  rw [evalPart_some]
  refine thn (he2.run pins s1 σ H1 _ I1 q1) fun u s2 ⟨y, H2, I2, ry, a, xs, hx, hl, q⟩ => ?_
  subst hx
  cases r1
  rcases q with ⟨hy, q⟩ | ⟨hy, q⟩
  · subst hy
    obtain ⟨t, rfl⟩ := ry
    have I4 : Inv X pins σ H2 { s2 with heap := s2.heap.push { cls := .type "slice", data := .fields #[.none, .none, .int 1 t] } } :=
      I2.kept (t' := s2.toks) fun b ob z => Heap.get?_push_of_some _ z
    obtain ⟨its, r, ht, hz⟩ := I4.tuple hl
    refine tail_any ht.typeIs PyProof.Rows.slot_tuple_getitem.lookup ?_ (by with_unfolding_all rfl)
    exact getItem_tuple_one ht (Heap.IsSliceOf.new ..) ⟨.ref a, H2, I4, rfl, q⟩
  · subst hy
    obtain ⟨t, rfl⟩ := ry
    have I4 : Inv X pins σ H2 { s2 with heap := s2.heap.push { cls := .type "slice", data := .fields #[.none, .none, .int (-1) t] } } :=
      I2.kept (t' := s2.toks) fun b ob z => Heap.get?_push_of_some _ z
    obtain ⟨its, r, ht, hz⟩ := I4.tuple hl
    have nl := r.length
    refine tail_any ht.typeIs PyProof.Rows.slot_tuple_getitem.lookup ?_ (by with_unfolding_all rfl)
    refine getItem_tuple_rev ht (Heap.IsSliceOf.new ..) (by rw [List.size_toArray] <;> omega) ?_
    refine ⟨.ref _, _, I4.laid (t' := s2.toks) (o := .tup xs.reverse) (fun b ob z => Heap.get?_push_of_some _ z) (Nat.le_refl _) ?_, rfl, q.go _ (I4.hok.fresh (Nat.le_refl _))⟩
    exact ⟨by rw [List.length_reverse]; exact hz, _, valsRev r, IsTup.new _ _⟩
end
end Cl

set_option maxHeartbeats 0
namespace Cl
open PySem PySem.Spec PyProof.Rows L2
open GxR (TabB TabG)

theorem keys_dk {K : PySem.W.Frag} {H H' : Hp} (s : Same H H') : ∀ {kvs : List (List Key × V)} {bs : List Addr} {ps : List Pt}, IsKeys H kvs bs → kvs.map (·.1) = (ps.map key2).map flatKey → AllAt (At2 K H') (bs.map V.ref) ps
  | [], [], [], .nil, _ => .nil
  | [], [], _ :: _, .nil, e => nomatch e
  | _ :: _, _ :: _, [], .cons _ _, e => nomatch e
  | kv :: kvs, b :: bs, p :: ps, .cons h t, e => by
    rw [List.map_cons, List.map_cons, List.map_cons] at e
    obtain ⟨e1, e2⟩ := List.cons.inj e
    rw [e1] at h
    exact .cons ⟨b, rfl, .inl (.inl (s _ _ h))⟩ (keys_dk s t e2)
def spAny24 (K : PySem.W.Frag) : Sp := fun vs H Q _ => ∃ (d l : Addr) (g n : Int) (v : V) (r : Ln), vs = [.ref d, .int g, v, .int n] ∧ Deck H d l ∧ 0 < g ∧ g ≤ 1000 ∧ AtL K H v r ∧ BdR 1000000 r ∧ 1 ≤ n ∧ n ≤ 60 ∧
  ∀ w H' ps, Step d l H H' → AtP K H' w ps → ps ≠ [] → ps.length ≤ 61 → (∀ c ∈ ps, BdN 1000050 c) → Q w H'

section
variable {P : Program} {w : World} {K : PySem.W.Frag} {mg : Str → Option Value} {base : Heap}

theorem ok_law_any_path {f : Addr} {fd : FuncData} (F : Fun K "_law_any_path" "_law_any_path" s_law_any_path f fd) (T : Bt mg) (D_law_draw : Def P w K mg base 1 "_law_draw" ["_law_deck_here", "_law_most"] spDraw) (D_law_nearest : Def P w K mg base 1 "_law_nearest" ["_law_grain_here", "_law_spot"] (spNearN K)) :
    FnG P w K mg base CX0 2 f fd ["_law_deck_here", "_law_grain_here", "_law_line_here", "_law_lots"] (spAny24 K) := by
  refine okG (k := 1) F sc_law_any_path (fun vs H Q E h => ?_) (fun cdv A outer s H vs Q E hr h => ?_)
  · obtain ⟨d, l, g, n, v, r, rfl, _⟩ := h
    rfl
  · obtain ⟨d, l, g, n, _, r, rfl, D, g0, g1, hL, bR, n0, n1, q⟩ := h
    refine ⟨_, (pss_cons (ps_asg (pv 2) (pg_tup (by rfl) (pgs_cons (pg_tup (by rfl) (pgs_cons (pg_name (i := 4) sc_law_any_path.nd rfl (.inl rfl)) (pgs_cons (pg_name (i := 5) sc_law_any_path.nd rfl (.inl rfl)) pgs_nil))) (pgs_cons (pg_tup (by rfl) (pgs_cons (pg_name (i := 6) sc_law_any_path.nd rfl (.inl rfl)) (pgs_cons (pg_name (i := 7) sc_law_any_path.nd rfl (.inl rfl)) pgs_nil))) pgs_nil))))
      (pss_cons (ps_set (i := 8) sc_law_any_path.nd rfl (.inl rfl) (pe_ix ix_list (lstN (pa_cons pe_int (pa_cons pe_int (pa_cons pe_int (pa_cons pe_int pa_nil))))) (callD D_law_draw (hr.mono (by decide)) (pa_cons (pv 0) (pa_cons pe_int pa_nil))) (fun _ _ => rfl)))
      (pss_cons (ps_set (i := 9) sc_law_any_path.nd rfl (.inl rfl) pe_dnewT)
      (pss_cons (ps_for PassesOwn.never rfl (pi_range1 (by rfl) T.range (pa_cons (pv 3) pa_nil)) (pg_name (i := 10) sc_law_any_path.nd rfl (.inl rfl)) (pss_cons (ps_set (i := 11) sc_law_any_path.nd rfl (.inl rfl) (callD D_law_draw (hr.mono (by decide)) (pa_cons (pv 0) (pa_cons pe_int pa_nil))))
      (pss_cons (ps_asg (callD D_law_nearest (hr.mono (by decide)) (pa_cons (pv 1) (pa_cons (tupN (pa_cons (pe_op op_add (pe_op op_mul pe_int (pv 4)) (pe_op op_mul (pe_op op_sub (pv 6) (pv 4)) (pv 11))) (pa_cons (pe_op op_add (pe_op op_mul pe_int (pv 5)) (pe_op op_mul (pe_op op_sub (pv 7) (pv 5)) (pv 11))) (pa_cons pe_int pa_nil)))) pa_nil))) (pg_tup (by rfl) (pgs_cons (pg_name (i := 12) sc_law_any_path.nd rfl (.inl rfl)) (pgs_cons (pg_name (i := 13) sc_law_any_path.nd rfl (.inl rfl)) pgs_nil))))
      (pss_one (ps_dput (Nat.lt_of_le_of_lt (Nat.add_le_add_left (by decide) _) hr.room.units) (pv 9) (tupN (pa_cons (pe_op op_sub (pe_op op_add (pv 12) (callD D_law_draw (hr.mono (by decide)) (pa_cons (pv 0) (pa_cons (pv 8) pa_nil)))) (pe_op op_fdiv (pv 8) pe_int)) (pa_cons (pe_op op_sub (pe_op op_add (pv 13) (callD D_law_draw (hr.mono (by decide)) (pa_cons (pv 0) (pa_cons (pv 8) pa_nil)))) (pe_op op_fdiv (pv 8) pe_int)) pa_nil))) pe_bl (by rfl))))))
      (cutS (ps_if (PW.pt (pw_and (pt_cmpR op_eq (callD D_law_draw (hr.mono (by decide)) (pa_cons (pv 0) (pa_cons pe_int pa_nil))) pe_int (nomark _)) (pw_and1 (pt_cmpR op_lt (pe_callB call_len_dT (by rfl) T.len (by decide +kernel) (pa_cons (pv 9) pa_nil)) pe_int (nomark _))))) (pss_cons (ps_set (i := 14) sc_law_any_path.nd rfl (.inl rfl) (tupN (pa_cons (pe_op op_sub pe_int (pe_op op_mul (pe_op op_mul pe_int pe_int) (callD D_law_draw (hr.mono (by decide)) (pa_cons (pv 0) (pa_cons pe_int pa_nil))))) (pa_cons (pe_op op_sub (callD D_law_draw (hr.mono (by decide)) (pa_cons (pv 0) (pa_cons pe_int pa_nil))) pe_int) pa_nil))))
      (pss_one (ps_dput (Nat.lt_of_le_of_lt (Nat.add_le_add_left (by decide) _) hr.room.units) (pv 9) (pe_stepT (pv 14) (pe_ix ix_list (lstN (pa_cons pe_int (pa_cons (pe_un un_neg pe_int) pa_nil))) (callD D_law_draw (hr.mono (by decide)) (pa_cons (pv 0) (pa_cons pe_int pa_nil))) (fun _ _ => rfl))) pe_bl (by rfl)))) pss_nil)
      (pss_one (ps_ret (pe_callTy (cr_tupDT rfl) (by rfl) T.tuple (by decide +kernel) (pa_cons (pv 9) pa_nil))))))))), ?_⟩
    obtain ⟨aL, u1, u2, rfl, hSL, ⟨b1, rfl, hb1⟩, ⟨b2, rfl, hb2⟩⟩ := id hL
    refine ⟨_, rfl, aL, _, rfl, hSL, rfl, _, _, rfl, b1, _, rfl, hb1, rfl, _, _, rfl, _, _, rfl, rfl, _, _, rfl, b2, _, rfl, hb2, rfl, _, _, rfl, _, _, rfl, rfl, rfl, ?_⟩
    refine ⟨(by show 4 ≤ sizeLine; decide), fun p1 H1 n1 s1 e1 => ⟨.ref d, rfl, d, l, 4, rfl, by decide, by decide, (Step.of D s1).deck, fun x H2 x0 x1 S2 => ?_⟩⟩
    have n1d := D.nd n1
    obtain ⟨W, hat, W0, W1⟩ : ∃ W : Int, atI [V.int 1, .int 3, .int 5, .int 41] x = some (.int W) ∧ 0 < W ∧ W ≤ 41 := by
      have : x = 0 ∨ x = 1 ∨ x = 2 ∨ x = 3 := by omega
      rcases this with rfl | rfl | rfl | rfl
      · exact ⟨1, rfl, by decide, by decide⟩
      · exact ⟨3, rfl, by decide, by decide⟩
      · exact ⟨5, rfl, by decide, by decide⟩
      · exact ⟨41, rfl, by decide, by decide⟩
    have S12 : Step d l H H2 := (Step.of D s1).trans S2
    refine ⟨p1, _, _, _, rfl, rfl, .inl (.inl (S2.at n1d.1 n1d.2 e1)), hat, ?_⟩
    have D2 := S12.deck
    intro pD nD
    have np := D2.nd nD
    obtain ⟨⟨⟨r1, r2⟩, r3, r4⟩, ⟨r5, r6⟩, r7, r8⟩ := id bR
    refine ⟨_, rfl, n, rfl, by omega, by omega, for_range (n := n.toNat) (fun i σ H' => ∃ y10 y11 y12 y13, σ = [some (.ref d), some (.int g), some (.ref aL), some (.int n), some (.int r.1.1), some (.int r.1.2), some (.int r.2.1), some (.int r.2.2), some (.int W), some (.ref pD), y10, y11, y12, y13, none] ∧ Step d l H2 H' ∧ ∃ ss, DK H' pD ss ∧ ss.length ≤ i ∧ (0 < i → ss ≠ []) ∧ ∀ c ∈ ss, BdN 1000050 c) ?_ ?_ ?_⟩
    · exact ⟨_, _, _, _, rfl, (Step.refl D2).updN np.1 np.2 nD, [], ⟨[], upd_same, rfl, .nil⟩, Nat.le_refl _, fun z => absurd z (Nat.lt_irrefl _), fun _ z => nomatch z⟩
    · rintro i σ H5 hi ⟨y10, y11, y12, y13, rfl, S5, ss, hDK, ls, nes, bs⟩
      refine ⟨.ref d, rfl, d, l, 13, rfl, by decide, by decide, S5.deck, fun sh H6 h0 h1 S6 => ?_⟩
      refine ⟨_, rfl, _, rfl, _, _, rfl, rfl, .inl (by decide), _, rfl, _, rfl, _, _, rfl, rfl, _, rfl, _, _, rfl, rfl, .inr (by omega), _, _, rfl, rfl, _, rfl, _, _, rfl, rfl, .inl (by decide), _, rfl, _, rfl, _, _, rfl, rfl, _, rfl, _, _, rfl, rfl, .inr (by omega), _, _, rfl, rfl, (by show 3 ≤ sizeLine; decide), fun p5 H7 n7 s7 e7 => ?_⟩
      refine ⟨g, _, (12 * r.1.1 + (r.2.1 - r.1.1) * sh, 12 * r.1.2 + (r.2.2 - r.1.2) * sh, 12), rfl, ⟨p5, rfl, .inl (.inl e7)⟩, g0, g1, (by show (0 : Int) < 12; decide), (by show (12 : Int) ≤ 2 ^ 46; decide), fun p6 H8 n8 s8 e8 => ?_⟩
      have bn : ∀ a b : Int, -1000000 ≤ a → a ≤ 1000000 → -1000000 ≤ b → b ≤ 1000000 → -1000001 ≤ nr (12 * a + (b - a) * sh) (12 * g) ∧ nr (12 * a + (b - a) * sh) (12 * g) ≤ 1000001 := fun a b a0 a1 b0 b1 => by
        have e : 12 * a + (b - a) * sh = (12 - sh) * a + sh * b := by grind
        have m1 := mulL a1 (show 0 ≤ 12 - sh by omega)
        have m2 := mulL a0 (show 0 ≤ 12 - sh by omega)
        have m3 := mulL b1 h0
        have m4 := mulL b0 h0
        exact nr_bd (d := 12 * g) (B := 1000000) (by omega) (by rw [e]; omega) (by rw [e]; omega) (by decide)
      have b1 := bn _ _ r1 r2 r5 r6
      have b2 := bn _ _ r3 r4 r7 r8
      refine ⟨p6, _, rfl, .inl (.inl e8), rfl, _, _, rfl, _, _, rfl, rfl, ?_⟩
      generalize nr (12 * r.1.1 + (r.2.1 - r.1.1) * sh) (12 * g) = I at b1
      generalize nr (12 * r.1.2 + (r.2.2 - r.1.2) * sh) (12 * g) = J at b2
      have S8 : Step d l H2 H8 := (S5.trans S6).trans (Step.of S6.deck (s7.trans s8))
      refine ⟨.ref pD, rfl, _, rfl, .ref d, rfl, _, rfl, d, l, W, rfl, W0, (by omega), S8.deck, fun a H9 a0 a1 S9 => ⟨_, _, rfl, rfl, _, rfl, _, _, rfl, rfl, ⟨by decide, by decide⟩, _, _, rfl, rfl, _, rfl, .ref d, rfl, _, rfl, d, l, W, rfl, W0, (by omega), S9.deck, fun b H10 b0 b1' S10 => ⟨_, _, rfl, rfl, _, rfl, _, _, rfl, rfl, ⟨by decide, by decide⟩, _, _, rfl, rfl, (by show 2 ≤ sizeLine; decide), fun pT H11 n11 s11 e11 => ?_⟩⟩⟩
      obtain ⟨c, ec⟩ : ∃ c : Pt, c = (I + a - W / 2, J + b - W / 2) := ⟨_, rfl⟩
      have e11 : H11 pT = some (.tup [.int c.1, .int c.2]) := by rw [ec]; exact e11
      have bc : BdN 1000050 c := by
        rw [ec]
        exact ⟨⟨by show _ ≤ I + a - W / 2; omega, by show I + a - W / 2 ≤ _; omega⟩, by show _ ≤ J + b - W / 2; omega, by show J + b - W / 2 ≤ _; omega⟩
      have S11 : Step d l H2 H11 := ((S8.trans S9).trans S10).trans (Step.of S10.deck s11)
      have hD11 : DK H11 pD ss := by
        obtain ⟨kvs, d1, d2, d3⟩ := hDK
        exact ⟨kvs, (((S6.trans (Step.of S6.deck (s7.trans s8))).trans (S9.trans S10)).trans (Step.of S10.deck s11)).at np.1 np.2 d1, d2, d3⟩
      obtain ⟨kvs, d1, d2, d3⟩ := hD11
      have lk := DK.len (H := H11) (d := pD) d2
      refine ⟨pD, _, rfl, .inr ⟨kvs, flatKey (key2 c), pT, d1, rfl, by rw [kV_flat]; exact e11, by rw [sizeLine_eq]; omega, rfl⟩, _, _, _, _, rfl, S11.updN np.1 np.2 nD, addS ss c, DK.put d2 d3, ?_, ?_, fun c' hc' => ?_⟩
      · have := len_addS ss c
        omega
      · intro _ z
        have : c ∈ addS ss c := mem_addS.mpr (.inr rfl)
        rw [z] at this
        cases this
      · rcases mem_addS.mp hc' with z | rfl
        · exact bs c' z
        · exact bc
    · rintro σ H5 ⟨y10, y11, y12, y13, rfl, S5, ss, hDK, ls, nes, bs⟩
      have nes := nes (by omega)
      refine ⟨fun σ' H' => ∃ y10 y11 y12 y13 y14, σ' = [some (.ref d), some (.int g), some (.ref aL), some (.int n), some (.int r.1.1), some (.int r.1.2), some (.int r.2.1), some (.int r.2.2), some (.int W), some (.ref pD), y10, y11, y12, y13, y14] ∧ Step d l H2 H' ∧ ∃ ss, DK H' pD ss ∧ ss.length ≤ 61 ∧ ss ≠ [] ∧ ∀ c ∈ ss, BdN 1000050 c, ?_, ?_⟩
      · have stay : ∀ {H6 : Hp}, Step d l H5 H6 → ∃ ss, DK H6 pD ss ∧ ss.length ≤ 61 ∧ ss ≠ [] ∧ ∀ c ∈ ss, BdN 1000050 c := fun S => by
          obtain ⟨kvs, d1, d2, d3⟩ := hDK
          exact ⟨ss, ⟨kvs, S.at np.1 np.2 d1, d2, d3⟩, by omega, nes, bs⟩
        refine ⟨.ref d, rfl, d, l, 16, rfl, by decide, by decide, S5.deck, fun x' H6 _ _ S6 => ⟨rfl, _, rfl, ite2 (fun c1 => ?_) (fun c1 => iteF ⟨_, _, _, _, _, rfl, S5.trans S6, stay S6⟩)⟩⟩
        obtain ⟨kvs6, d61, d62, d63⟩ : DK H6 pD ss := by
          obtain ⟨kvs, d1, d2, d3⟩ := hDK
          exact ⟨kvs, S6.at np.1 np.2 d1, d2, d3⟩
        refine ⟨_, rfl, pD, kvs6, rfl, d61, _, _, rfl, rfl, _, rfl, ite2 (fun c2 => ?_) (fun c2 => ⟨_, _, _, _, _, rfl, S5.trans S6, stay S6⟩)⟩
        refine ⟨_, _, rfl, rfl, .inl (by decide), .ref d, rfl, d, l, 2, rfl, by decide, by decide, S6.deck, fun b H7 b0 b1 S7 => ⟨_, _, rfl, rfl, .inl (by decide), _, _, rfl, rfl, .ref d, rfl, d, l, 1999999, rfl, by decide, by decide, S7.deck, fun t H8 t0 t1 S8 => ⟨_, _, rfl, rfl, (by show 2 ≤ sizeLine; decide), fun pF H9 n9 s9 e9 => ?_⟩⟩⟩
        refine ⟨.ref pD, rfl, _, rfl, _, rfl, (by show 2 ≤ sizeLine; decide), fun pL H10 n10 s10 e10 => ⟨.ref d, rfl, d, l, 2, rfl, by decide, by decide, (Step.of S8.deck (s9.trans s10)).deck, fun u H11 u0 u1 S11 => ?_⟩⟩
        have D9 := (Step.of S8.deck s9).deck
        have S510 : Step d l H5 H10 := ((S6.trans S7).trans S8).trans (Step.of S8.deck (s9.trans s10))
        have SA : Step d l H5 H11 := S510.trans S11
        have nF := S8.deck.nd n9
        have nL := D9.nd n10
        have eL := S11.at nL.1 nL.2 e10
        have eF := S11.at nF.1 nF.2 (s10 _ _ e9)
        obtain ⟨c, ec⟩ : ∃ c : Pt, c = (999999 - 2 * 999999 * b, t - 999999) := ⟨_, rfl⟩
        have bc : BdN 1000050 c ∧ BdN 1000050 (c.2, c.1) := by
          rw [ec]
          exact ⟨⟨⟨by show _ ≤ 999999 - 2 * 999999 * b; omega, by show 999999 - 2 * 999999 * b ≤ _; omega⟩, by show _ ≤ t - 999999; omega, by show t - 999999 ≤ _; omega⟩, ⟨by show _ ≤ t - 999999; omega, by show t - 999999 ≤ _; omega⟩, by show _ ≤ 999999 - 2 * 999999 * b; omega, by show 999999 - 2 * 999999 * b ≤ _; omega⟩
        have eF : H11 pF = some (.tup [.int c.1, .int c.2]) := by rw [ec]; exact eF
        have l60 : ss.length < 60 := by
          have := of_decide_eq_true c2
          have lk := DK.len (H := H6) (d := pD) d62
          omega
        have fin : ∀ (c : Pt) (pT : Addr) (H' : Hp), BdN 1000050 c → Same H11 H' → H' pT = some (.tup [.int c.1, .int c.2]) → ∃ (p : Addr) (kvs : List (List Key × V)) (k : List Key), H' p = some (.dT kvs) ∧ p = pD ∧ kvs.length < sizeLine ∧ k = flatKey (key2 c) ∧ Step d l H2 (upd H' pD (.dT (putK kvs k (.bl true)))) ∧ ∃ ss, DK (upd H' pD (.dT (putK kvs k (.bl true)))) pD ss ∧ ss.length ≤ 61 ∧ ss ≠ [] ∧ ∀ c ∈ ss, BdN 1000050 c := fun c pT H' hc sx hp => by
          obtain ⟨kvs, d1, d2, d3⟩ := hDK
          have lk := DK.len (H := H6) (d := pD) d2
          refine ⟨pD, kvs, _, sx _ _ (SA.at np.1 np.2 d1), rfl, by rw [sizeLine_eq]; omega, rfl, ((S5.trans SA).trans (Step.of SA.deck sx)).updN np.1 np.2 nD, addS ss c, DK.put d2 d3, ?_, ?_, fun c' hc' => ?_⟩
          · have := len_addS ss c
            omega
          · intro z
            have : c ∈ addS ss c := mem_addS.mpr (.inr rfl)
            rw [z] at this
            cases this
          · rcases mem_addS.mp hc' with z | rfl
            · exact bs c' z
            · exact hc
        have hu : u = 0 ∨ u = 1 := by omega
        rcases hu with rfl | rfl
        · refine ⟨pL, _, 0, _, rfl, rfl, .inl (.inl eL), rfl, pF, _, rfl, .inl (.inl eF), .inl ⟨rfl, ?_⟩⟩
          obtain ⟨p, kvs, k, f1, rfl, f2, rfl, f4⟩ := fin c pF H11 bc.1 (Same.refl _) eF
          exact ⟨p, _, rfl, .inr ⟨kvs, flatKey (key2 c), pF, f1, rfl, by rw [kV_flat]; exact eF, f2, rfl⟩, _, _, _, _, _, rfl, f4⟩
        · refine ⟨pL, _, 1, _, rfl, rfl, .inl (.inl eL), rfl, pF, _, rfl, .inl (.inl eF), .inr ⟨rfl, fun pR H12 n12 s12 e12 => ?_⟩⟩
          have e12 : H12 pR = some (.tup [.int c.2, .int c.1]) := e12
          obtain ⟨p, kvs, k, f1, rfl, f2, rfl, f4⟩ := fin (c.2, c.1) pR H12 bc.2 s12 e12
          exact ⟨p, _, rfl, .inr ⟨kvs, flatKey (key2 (c.2, c.1)), pR, f1, rfl, by rw [kV_flat]; exact e12, f2, rfl⟩, _, _, _, _, _, rfl, f4⟩
      · rintro σ' H6 ⟨y10, y11, y12, y13, y14, rfl, S6, ss, ⟨kvs, d1, d2, d3⟩, ls, nes, bs⟩
        refine ⟨.ref pD, rfl, pD, kvs, rfl, d1, fun bs' hb pT HT nT sT gT => ?_⟩
        exact q _ HT ss (S12.trans (S6.trans (Step.of S6.deck sT))) ⟨pT, _, rfl, .inl (.inl gT), keys_dk sT hb d2⟩ nes ls bs

end
end Cl

set_option maxHeartbeats 0
namespace Cl
open PySem PySem.Spec PyProof.Rows L2
open GxR (TabB TabG)

/-! ### data that are shown shortly, part by part -/
structure Fi (d : PyData) (dep blk : Nat) : Prop where
  lv : d.leavesShort 200 = true
  sh : d.showable = true
  nd : d.hasDict = false
  dp : d.depth ≤ dep
  bk : d.bulk ≤ blk
theorem Fi.int {i : Int} (h : okI i) : Fi (.int i) 0 0 := by
  have a := h.len
  have b := h.sh
  constructor
  · simp [PyData.leavesShort, a]
  · simp [PyData.showable, b]
  · rfl
  · exact Nat.le_refl _
  · exact Nat.le_refl _
theorem Fi.all {dep blk : Nat} : ∀ {xs : List PyData}, (∀ x ∈ xs, Fi x dep blk) → PyData.leavesShortAll 200 xs = true ∧ PyData.showableAll xs = true ∧ PyData.hasDictAll xs = false ∧ PyData.depthAll xs ≤ dep ∧ PyData.bulkAll xs ≤ xs.length * (blk + 1)
  | [], _ => ⟨rfl, rfl, rfl, Nat.zero_le _, Nat.zero_le _⟩
  | x :: xs, h => by
    obtain ⟨a, b, c, d, e⟩ := h x (List.mem_cons_self ..)
    obtain ⟨a2, b2, c2, d2, e2⟩ := Fi.all fun y hy => h y (List.mem_cons_of_mem _ hy)
    refine ⟨?_, ?_, ?_, ?_, ?_⟩
    · show (PyData.leavesShort 200 x && PyData.leavesShortAll 200 xs) = true
      rw [a, a2]; rfl
    · show (PyData.showable x && PyData.showableAll xs) = true
      rw [b, b2]; rfl
    · show (PyData.hasDict x || PyData.hasDictAll xs) = false
      rw [c, c2]; rfl
    · show max (PyData.depth x) (PyData.depthAll xs) ≤ dep
      omega
    · show PyData.bulk x + 1 + PyData.bulkAll xs ≤ (xs.length + 1) * (blk + 1)
      rw [Nat.add_mul]
      omega
theorem Fi.tup {dep blk : Nat} {xs : List PyData} (h : ∀ x ∈ xs, Fi x dep blk) : Fi (.tuple xs) (dep + 1) (xs.length * (blk + 1)) := by
  obtain ⟨a, b, c, d, e⟩ := Fi.all h
  exact ⟨a, b, c, by show PyData.depthAll xs + 1 ≤ _; omega, e⟩
theorem Fi.up {d : PyData} {a b a2 b2 : Nat} (h : Fi d a b) (h1 : a ≤ a2) (h2 : b ≤ b2) : Fi d a2 b2 := ⟨h.lv, h.sh, h.nd, Nat.le_trans h.dp h1, Nat.le_trans h.bk h2⟩
theorem Fi.fine {d : PyData} {a b : Nat} (h : Fi d a b) (h1 : a ≤ 60) (h2 : b ≤ 80000) : Fine d := ⟨h.lv, h.sh, h.nd, Nat.le_trans h.dp h1, Nat.le_trans h.bk h2⟩
theorem Fi.pt {p : Pt} (h1 : okI p.1) (h2 : okI p.2) : Fi (pd p) 1 2 := Fi.tup (dep := 0) (blk := 0) fun x hx => by
  simp only [List.mem_cons, List.not_mem_nil, or_false] at hx
  rcases hx with rfl | rfl
  · exact .int h1
  · exact .int h2
theorem Fi.end : Fi (.str "end") 0 5 := ⟨by decide, rfl, rfl, Nat.le_refl _, by decide⟩
theorem Fi.cross : Fi (.str "cross") 0 5 := ⟨by decide, rfl, rfl, Nat.le_refl _, by decide⟩
structure RowOk (r : Rw) : Prop where
  c1 : okI r.1.1
  c2 : okI r.1.2
  wd : r.2.1 = "end" ∨ r.2.1 = "cross"
  k1 : okI r.2.2.1
  k2 : okI r.2.2.2
theorem Fi.want {r : Rw} (h : RowOk r) : Fi (dW r.2) 1 18 := Fi.tup (dep := 0) (blk := 5) fun x hx => by
  simp only [List.mem_cons, List.not_mem_nil, or_false] at hx
  rcases hx with rfl | rfl | rfl
  · rcases h.wd with e | e <;> rw [e]
    · exact .end
    · exact .cross
  · exact (Fi.int h.k1).up (Nat.le_refl _) (by decide)
  · exact (Fi.int h.k2).up (Nat.le_refl _) (by decide)
theorem wsOf_cons (r : Rw) (R : List Rw) (k : Pt) : (wsOf (r :: R) k).length = (wsOf R k).length + if r.1 = k then 1 else 0 := by
  unfold wsOf
  rw [List.length_map, List.length_map, List.filter_cons]
  by_cases h : r.1 = k
  · rw [if_pos (decide_eq_true h), if_pos h, List.length_cons]
  · rw [if_neg (by simpa using h), if_neg h]; rfl
theorem sum_cons (r : Rw) (R : List Rw) : ∀ ks : List Pt, ks.Nodup → (ks.map fun k => (wsOf (r :: R) k).length).sum ≤ (ks.map fun k => (wsOf R k).length).sum + (if r.1 ∈ ks then 1 else 0)
  | [], _ => Nat.le_refl _
  | k :: ks, nd => by
    rw [List.nodup_cons] at nd
    have ih := sum_cons r R ks nd.2
    rw [List.map_cons, List.map_cons, List.sum_cons, List.sum_cons, wsOf_cons]
    by_cases h : r.1 = k
    · have hn : r.1 ∉ ks := by rw [h]; exact nd.1
      rw [if_neg hn] at ih
      rw [if_pos h, if_pos (by rw [h]; exact List.mem_cons_self ..)]
      omega
    · rw [if_neg h]
      by_cases h2 : r.1 ∈ ks
      · rw [if_pos h2] at ih
        rw [if_pos (List.mem_cons_of_mem _ h2)]
        omega
      · rw [if_neg h2] at ih
        omega
theorem sum_ws : ∀ (R : List Rw) (ks : List Pt), ks.Nodup → (ks.map fun k => (wsOf R k).length).sum ≤ R.length
  | [], ks, _ => by
    induction ks with
    | nil => exact Nat.le_refl _
    | cons k ks ih =>
      rename_i nd
      rw [List.map_cons, List.sum_cons]
      have e0 : (wsOf [] k).length = 0 := rfl
      have := ih (List.nodup_cons.mp nd).2
      omega
  | r :: R, ks, nd => by
    have h1 := sum_cons r R ks nd
    have h2 := sum_ws R ks nd
    have h3 : (if r.1 ∈ ks then 1 else 0) ≤ 1 := by split <;> omega
    rw [List.length_cons]
    omega
theorem sum_due {R : List Rw} : ∀ {L : List (Pt × List Wt)}, (∀ e ∈ L, e.2.Perm (wsOf R e.1)) → (L.map fun e => e.2.length).sum = ((L.map (·.1)).map fun k => (wsOf R k).length).sum
  | [], _ => rfl
  | e :: L, h => by
    rw [List.map_cons, List.map_cons, List.map_cons, List.sum_cons, List.sum_cons, (h e (List.mem_cons_self ..)).length_eq, sum_due fun f hf => h f (List.mem_cons_of_mem _ hf)]
theorem bulk_due : ∀ {L : List (Pt × List Wt)}, (∀ e ∈ L, ∀ w ∈ e.2, Fi (dW w) 1 18) → PyData.bulkAll (L.map dD) ≤ 5 * L.length + 19 * (L.map fun e => e.2.length).sum
  | [], _ => Nat.zero_le _
  | e :: L, h => by
    have ih := bulk_due fun f hf => h f (List.mem_cons_of_mem _ hf)
    have h1 := (Fi.all (dep := 1) (blk := 18) (xs := e.2.map dW) fun x hx => by
      obtain ⟨w, hw, rfl⟩ := List.mem_map.mp hx
      exact h e (List.mem_cons_self ..) w hw).2.2.2.2
    rw [List.length_map] at h1
    rw [List.map_cons, List.map_cons, List.sum_cons, List.length_cons]
    have h2 : PyData.bulk (dD e) = 2 + 1 + (PyData.bulkAll (e.2.map dW) + 1 + 0) := rfl
    show PyData.bulk (dD e) + 1 + PyData.bulkAll (L.map dD) ≤ _
    rw [h2]
    omega
theorem fine_due {R : List Rw} {L : List (Pt × List Wt)} (h : IsDue R L) (ok : ∀ r ∈ R, RowOk r) (len : R.length ≤ 200) : Fine (.tuple (L.map dD)) := by
  have lL := h.len
  have wk : ∀ e ∈ L, ∀ w ∈ e.2, Fi (dW w) 1 18 := fun e he w hw => by
    obtain ⟨pm, _⟩ := h.ws e he
    obtain ⟨q, hq, rfl⟩ := List.mem_map.mp (pm.mem_iff.mp hw)
    exact Fi.want (ok q (List.mem_filter.mp hq).1)
  have each : ∀ x ∈ L.map dD, Fi x 3 (2 * 4000) := fun x hx => by
    obtain ⟨e, he, rfl⟩ := List.mem_map.mp hx
    obtain ⟨r, hr, er⟩ := (h.mem e.1).mp (List.mem_map.mpr ⟨e, he, rfl⟩)
    have ro := ok r hr
    obtain ⟨pm, _⟩ := h.ws e he
    have lw : e.2.length ≤ 200 := by rw [pm.length_eq]; exact Nat.le_trans (wsOf_len ..) len
    have w1 : Fi (.tuple (e.2.map dW)) 2 3999 := by
      refine (Fi.tup (dep := 1) (blk := 18) fun y hy => ?_).up (Nat.le_refl _) ?_
      · obtain ⟨w, hw, rfl⟩ := List.mem_map.mp hy
        exact wk e he w hw
      · rw [List.length_map]; omega
    refine (Fi.tup (dep := 2) (blk := 3999) (xs := [pd e.1, .tuple (e.2.map dW)]) fun y hy => ?_).up (Nat.le_refl _) (by show 2 * 4000 ≤ 2 * 4000; decide)
    simp only [List.mem_cons, List.not_mem_nil, or_false] at hy
    rcases hy with rfl | rfl
    · exact (Fi.pt (by rw [← er]; exact ro.c1) (by rw [← er]; exact ro.c2)).up (by decide) (by decide)
    · exact w1
  obtain ⟨a, b, c, d, _⟩ := Fi.all each
  refine ⟨a, b, c, by show PyData.depthAll _ + 1 ≤ 60; omega, ?_⟩
  have h1 := bulk_due wk
  have h2 := sum_ws R (L.map (·.1)) h.nd
  rw [← sum_due fun e he => (h.ws e he).1] at h2
  show PyData.bulkAll (L.map dD) ≤ 80000
  omega
theorem fine_cs {R : List Rw} {cs : List Pt} (h : IsCs R cs) (ok : ∀ r ∈ R, RowOk r) (len : cs.length ≤ 200) : Fine (.tuple (cs.map pd)) := by
  refine (Fi.tup (dep := 1) (blk := 2) fun x hx => ?_).fine (by decide) (by rw [List.length_map]; omega)
  obtain ⟨p, hp, rfl⟩ := List.mem_map.mp hx
  obtain ⟨r, hr, e⟩ := (h.2.2 p).mp hp
  exact Fi.pt (by rw [← e]; exact (ok r hr).c1) (by rw [← e]; exact (ok r hr).c2)
theorem okI_nr {n d : Int} (hd : 0 < d) (h1 : -(2 ^ 100) < n) (h2 : n < 2 ^ 100) : okI (nr n d) := by
  have := nr_ok hd h1 h2 (by decide)
  exact okI.of (by omega) (by omega)
theorem okI_small {i : Int} (h1 : -1000 ≤ i) (h2 : i ≤ 1000) : okI i := okI.of (by omega) (by omega)
theorem cmn_num {l r : Ln} (hl : GoodLn 2000000 l) (hr : GoodLn 2000000 r) : ∀ s ∈ cmn l r, (-(2 ^ 100) < s.1 ∧ s.1 < 2 ^ 100) ∧ -(2 ^ 100) < s.2.1 ∧ s.2.1 < 2 ^ 100 := by
  intro s hs
  obtain ⟨a1, a2, _⟩ := id hl
  obtain ⟨b1, b2, _⟩ := id hr
  unfold BdN at a1 a2 b1 b2
  unfold cmn at hs
  split at hs
  · rename_i h0
    unfold acr at hs
    simp only at hs
    split at hs
    · rw [List.mem_singleton.mp hs]
      have m1 := mul_b (a := l.2.1 - l.1.1) (b := r.2.2 - r.1.2) (by omega) (by omega) (by omega) (by omega)
      have m2 := mul_b (a := l.2.2 - l.1.2) (b := r.2.1 - r.1.1) (by omega) (by omega) (by omega) (by omega)
      have m3 := mul_b (a := r.1.1 - l.1.1) (b := r.2.2 - r.1.2) (by omega) (by omega) (by omega) (by omega)
      have m4 := mul_b (a := r.1.2 - l.1.2) (b := r.2.1 - r.1.1) (by omega) (by omega) (by omega) (by omega)
      have kM : (klm l r).2.2.natAbs ≤ 2 ^ 46 := by
        show (trn (less l.2 l.1) (less r.2 r.1) * kfs l r).natAbs ≤ 2 ^ 46
        have e : trn (less l.2 l.1) (less r.2 r.1) = (l.2.1 - l.1.1) * (r.2.2 - r.1.2) - (l.2.2 - l.1.2) * (r.2.1 - r.1.1) := rfl
        unfold kfs
        split <;> omega
      have kN : (klm l r).1.natAbs ≤ 2 ^ 46 := by
        show (trn (less r.1 l.1) (less r.2 r.1) * kfs l r).natAbs ≤ 2 ^ 46
        have e : trn (less r.1 l.1) (less r.2 r.1) = (r.1.1 - l.1.1) * (r.2.2 - r.1.2) - (r.1.2 - l.1.2) * (r.2.1 - r.1.1) := rfl
        unfold kfs
        split <;> omega
      have mu : ∀ x y : Int, x.natAbs ≤ 2 ^ 46 → y.natAbs ≤ 2 ^ 24 → (x * y).natAbs ≤ 2 ^ 70 := fun x y h1 h2 => by
        rw [Int.natAbs_mul]
        exact Nat.le_trans (Nat.mul_le_mul h1 h2) (by decide)
      have n1 := mu (klm l r).2.2 l.1.1 kM (by omega)
      have n2 := mu (klm l r).2.2 l.1.2 kM (by omega)
      have n3 := mu (klm l r).1 (l.2.1 - l.1.1) kN (by omega)
      have n4 := mu (klm l r).1 (l.2.2 - l.1.2) kN (by omega)
      have q : ∀ n p : Int, n.natAbs ≤ 2 ^ 71 → -(2 ^ 100) < n / p ∧ n / p < 2 ^ 100 := fun n p h => by
        have := Int.natAbs_ediv_le_natAbs n p
        omega
      exact ⟨q _ _ (by omega), q _ _ (by omega)⟩
    · cases hs
  · split at hs
    · cases hs
    · have one : ∀ p : Pt, (p = l.1 ∨ p = l.2) ∨ (p = r.1 ∨ p = r.2) → (-(2 ^ 100) < (one3 p).1 ∧ (one3 p).1 < 2 ^ 100) ∧ -(2 ^ 100) < (one3 p).2.1 ∧ (one3 p).2.1 < 2 ^ 100 := fun p h => by
        unfold one3
        rcases h with (rfl | rfl) | (rfl | rfl) <;> (simp only; omega)
      have hlo : (lo l r = l.1 ∨ lo l r = l.2) ∨ (lo l r = r.1 ∨ lo l r = r.2) := by
        obtain ⟨c, _⟩ := mx_or (mn l.1 l.2) (mn r.1 r.2)
        unfold lo
        rcases c with c | c <;> rw [c]
        · exact .inl (mn_or l.1 l.2).1
        · exact .inr (mn_or r.1 r.2).1
      have hhi : (hi l r = l.1 ∨ hi l r = l.2) ∨ (hi l r = r.1 ∨ hi l r = r.2) := by
        obtain ⟨c, _⟩ := mn_or (mx l.1 l.2) (mx r.1 r.2)
        unfold hi
        rcases c with c | c <;> rw [c]
        · exact .inl (mx_or l.1 l.2).1
        · exact .inr (mx_or r.1 r.2).1
      unfold alo at hs
      split at hs
      · cases hs
      · split at hs
        · rw [List.mem_singleton.mp hs]
          exact one _ hlo
        · rcases List.mem_cons.mp hs with rfl | hs
          · exact one _ hlo
          · rw [List.mem_singleton.mp hs]
            exact one _ hhi
theorem rows_ok {g : Int} {ls : List Ln} (h0 : 0 < g) (hl : ls.length ≤ 12) (hg : ∀ r ∈ ls, GoodLn 2000000 r) : ∀ r ∈ rowsP g ls, RowOk r := by
  intro r hr
  unfold rowsP at hr
  rcases List.mem_append.mp hr with hr | hr
  · obtain ⟨k, hk, hr⟩ := List.mem_flatMap.mp hr
    have hk := List.mem_range.mp hk
    unfold endRow at hr
    rw [List.getElem?_eq_getElem hk] at hr
    obtain ⟨g1, g2, _⟩ := hg _ (List.getElem_mem hk)
    unfold BdN at g1 g2
    simp only [List.mem_cons, List.not_mem_nil, or_false] at hr
    rcases hr with rfl | rfl
    · exact ⟨okI_nr h0 (by omega) (by omega), okI_nr h0 (by omega) (by omega), .inl rfl, okI_small (by simp only; omega) (by simp only; omega), okI_small (by simp only; omega) (by simp only; omega)⟩
    · exact ⟨okI_nr h0 (by omega) (by omega), okI_nr h0 (by omega) (by omega), .inl rfl, okI_small (by simp only; omega) (by simp only; omega), okI_small (by simp only; omega) (by simp only; omega)⟩
  · obtain ⟨⟨k, l⟩, hk, hr⟩ := List.mem_flatMap.mp hr
    obtain ⟨h1, h2⟩ := prs_mem hk
    have h1 : k < l := h1
    have h2 : l < ls.length := h2
    have hr : r ∈ crossRow g ls k l := hr
    unfold crossRow at hr
    rw [List.getElem?_eq_getElem h2, List.getElem?_eq_getElem (show k < ls.length by omega)] at hr
    have gk := hg _ (List.getElem_mem (show k < ls.length by omega))
    have gl := hg _ (List.getElem_mem h2)
    simp only at hr
    unfold rowS at hr
    split at hr
    · rename_i s es
      have hm : s ∈ cmn ls[k] ls[l] := by rw [es]; exact List.mem_singleton.mpr rfl
      obtain ⟨⟨n1, n2⟩, n3, n4⟩ := cmn_num gk gl s hm
      obtain ⟨d1, _⟩ := cmn_den gk gl s hm
      have dp : 0 < s.2.2 * g := Int.mul_pos d1 h0
      rw [List.mem_singleton.mp hr]
      exact ⟨okI_nr dp n1 n2, okI_nr dp n3 n4, .inr rfl, okI_small (by simp only; omega) (by simp only; omega), okI_small (by simp only; omega) (by simp only; omega)⟩
    · cases hr
theorem pts_dpN {K : PySem.W.Frag} {H : Hp} : ∀ {ws : List V} {ps : List Pt}, AllAt (At2 K H) ws ps → DpAll K H ws (ps.map pd)
  | _, _, .nil => .nil
  | _, _, .cons h t => .cons h.dp (pts_dpN t)
theorem AtP.dpt {K : PySem.W.Frag} {H : Hp} {v : V} {ps : List Pt} (h : AtP K H v ps) : Dp K H v (.tuple (ps.map pd)) := by
  obtain ⟨a, vs, rfl, h1, h2⟩ := h
  exact .tup h1 (pts_dpN h2)
theorem AtWk.step {K : PySem.W.Frag} {d l : Addr} {H H' : Hp} {v : V} {w : Wt} (h : AtWk K H v w) (S : Step d l H H') (D : Deck H d l) : AtWk K H' v w := by
  obtain ⟨a, e, h⟩ := h
  exact ⟨a, e, stT S D h⟩
theorem AtDue.step {K : PySem.W.Frag} {d l : Addr} {H H' : Hp} {v : V} {L : List (Pt × List Wt)} (h : AtDue K H v L) (S : Step d l H H') (D : Deck H d l) : AtDue K H' v L := by
  obtain ⟨a, vs, e, h1, h2⟩ := h
  exact ⟨a, vs, e, stT S D h1, h2.map fun _ _ ⟨a, u, b, ws, e, h1, h2, h3, h4⟩ => ⟨a, u, b, ws, e, stT S D h1, h2.step S D, stT S D h3, h4.map fun _ _ z => z.step S D⟩⟩
theorem AtT.step {K : PySem.W.Frag} {d l : Addr} {H H' : Hp} {v : V} {ls : List Ln} (h : AtT K H v ls) (S : Step d l H H') (D : Deck H d l) : AtT K H' v ls := by
  obtain ⟨a, vs, e, h1, h2⟩ := h
  exact ⟨a, vs, e, stT S D h1, h2.map fun _ _ z => z.step S D⟩
theorem IsCs.len {R : List Rw} {cs : List Pt} (h : IsCs R cs) : cs.length ≤ R.length := by
  have h1 : cs.length ≤ (R.map (·.1)).length := List.Nodup.length_le_of_subset h.2.1 fun p hp => by
    obtain ⟨r, hr, z⟩ := (h.2.2 p).mp hp
    exact List.mem_map.mpr ⟨r, hr, z⟩
  simpa using h1
end Cl

set_option maxHeartbeats 0
namespace Cl
open PySem PySem.Spec PyProof.Rows L2
open GxR (TabB TabG)

theorem bdN_up24 {B C : Int} {p : Pt} (h : BdN B p) (hBC : B ≤ C) : BdN C p := by
  obtain ⟨⟨a, b⟩, c, d⟩ := h
  exact ⟨⟨by omega, by omega⟩, by omega, by omega⟩

def spMovedL24 (K : PySem.W.Frag) : Sp := fun vs H Q _ => ∃ (L : Addr) (ws : List V) (ls : List Ln) (dx dy : Int), vs = [.ref L, .int dx, .int dy] ∧ SqL K H L ws ∧ AllAt (AtL K H) ws ls ∧ ls.length ≤ 900 ∧
  ∀ w H', Same H H' → AtT K H' w (ls.map (mvL dx dy)) → Q w H'
theorem AtT.step24 {K : PySem.W.Frag} {H H' : Hp} {d l : Addr} {v : V} {ls : List Ln} (h : AtT K H v ls) (S : Step d l H H') (D : Deck H d l) : AtT K H' v ls := by
  obtain ⟨a, vs, e, h1, h2⟩ := h
  exact ⟨a, vs, e, stT S D h1, h2.map fun _ _ z => z.step S D⟩
def spFarL24 (K : PySem.W.Frag) : Sp := fun vs H Q _ => ∃ (d l : Addr) (g : Int) (u : V) (ls : List Ln), vs = [.ref d, .int g, u] ∧ Deck H d l ∧ 0 < g ∧ g ≤ 1000 ∧ AtT K H u ls ∧ ls.length ≤ 12 ∧ (∀ r ∈ ls, BdR 60000 r ∧ r.1 ≠ r.2) ∧
  ∀ w H' ls', Step d l H H' → AtT K H' w ls' → ls'.length = ls.length → (∀ r ∈ ls', GoodLn 960000 r) → Q w H'
def spTold24 (K : PySem.W.Frag) : Sp := fun vs H Q _ => ∃ g v u x r ps p, vs = [.int g, v, u, x] ∧ AtL K H v r ∧ AtP K H u ps ∧ (0 < g ∧ ∀ c ∈ ps, BdW g r c) ∧ At2 K H x p ∧ (okI p.1 ∧ okI p.2) ∧ (∀ z, Off g r ps z → lowN z.1 z.2 = p) ∧
  ∀ H', Same H H' → Q (.bl true) H'

section
variable {P : Program} {w : World} {K : PySem.W.Frag} {mg : Str → Option Value} {base : Heap}

theorem ok_law_movedL {f : Addr} {fd : FuncData} (F : Fun K "_law_moved" "_law_moved" s_law_moved f fd) (T : Bt mg) :
    FnG P w K mg base CX0 1 f fd ["_law_lines_here", "_law_dx", "_law_dy"] (spMovedL24 K) := by
  refine okG (k := 0) F sc_law_moved (fun vs H Q E h => ?_) (fun cdv A outer s H vs Q E hr h => ?_)
  · obtain ⟨L, ws, ls, dx, dy, rfl, _⟩ := h
    rfl
  · obtain ⟨L, ws, ls, dx, dy, rfl, eL, hall, hlen, q⟩ := h
    refine ⟨_, (pss_one (ps_ret (pe_callTy call_tuple_ofN (by rfl) T.tuple (by decide +kernel) (pa_cons (pe_lc (own := [("_law_x", 3), ("_law_y", 4), ("_law_u", 5), ("_law_v", 6)]) (g := gTup K 2 (gCons (gTup K 2 (gCons (gName 3) (gCons (gName 4) gNil))) (gCons (gTup K 2 (gCons (gName 5) (gCons (gName 6) gNil))) gNil))) (tt := tYes) (by rfl) sc_law_moved.nd (pi_list (pv 0)) (blkOk_by (own := [("_law_x", 3), ("_law_y", 4), ("_law_u", 5), ("_law_v", 6)]) (N := ["_law_lines_here", "_law_dx", "_law_dy", "_law_x", "_law_y", "_law_u", "_law_v"]) (sc := defScope s_law_moved) (by decide +kernel)) (fun _ _ _ _ _ => (pg_tup (by rfl) (pgs_cons (pg_tup (by rfl) (pgs_cons (pg_name (i := 3) sc_law_moved.nd rfl (.inl rfl)) (pgs_cons (pg_name (i := 4) sc_law_moved.nd rfl (.inl rfl)) pgs_nil))) (pgs_cons (pg_tup (by rfl) (pgs_cons (pg_name (i := 5) sc_law_moved.nd rfl (.inl rfl)) (pgs_cons (pg_name (i := 6) sc_law_moved.nd rfl (.inl rfl)) pgs_nil))) pgs_nil)))) (fun _ _ _ _ _ => pts_nil) (fun _ _ _ _ _ => (tupN (pa_cons (tupN (pa_cons (pe_op op_add (pv 3) (pv 1)) (pa_cons (pe_op op_add (pv 4) (pv 2)) pa_nil))) (pa_cons (tupN (pa_cons (pe_op op_add (pv 5) (pv 1)) (pa_cons (pe_op op_add (pv 6) (pv 2)) pa_nil))) pa_nil))))) pa_nil)))), ?_⟩
    refine ⟨_, rfl, L, rfl, ⟨_, eL⟩, fun pD nD => ?_⟩
    refine lcL (K := K) (a := L) (xs := ws) (fun i H' => Same H H' ∧ ∃ vs, H' pD = some (.lst vs) ∧ AllAt (AtL K H') vs ((ls.take i).map (mvL dx dy))) nD (fun H' e1 e2 => ⟨e1, [], e2, .nil⟩) (fun i H' _ z => seqS z.1 eL) (fun i z H' hz w => ?_) (fun H6 z => ?_)
    · obtain ⟨t1, vs, t2, t3⟩ := w
      obtain ⟨r, hr_, a, _, _, rfl, hS, ⟨b, rfl, hb⟩, ⟨c, rfl, hc⟩⟩ := hall.get hz
      refine ⟨a, _, rfl, seT t1 hS, rfl, _, _, rfl, b, _, rfl, seT t1 hb, rfl, _, _, rfl, _, _, rfl, rfl, _, _, rfl, c, _, rfl, seT t1 hc, rfl, _, _, rfl, _, _, rfl, rfl, rfl, ?_⟩
      refine ⟨rfl, _, rfl, _, rfl, _, _, rfl, rfl, _, rfl, _, rfl, _, _, rfl, rfl, (by show 2 ≤ sizeLine; decide), fun p7 H7 n7 s7 g7 => ?_⟩
      refine ⟨_, rfl, _, rfl, _, _, rfl, rfl, _, rfl, _, rfl, _, _, rfl, rfl, (by show 2 ≤ sizeLine; decide), fun p8 H8 n8 s8 g8 => ⟨(by show 2 ≤ sizeLine; decide), fun p9 H9 n9 s9 g9 => ?_⟩⟩
      have s79 := (s7.trans s8).trans s9
      have k9 := s79 _ _ t2
      refine ⟨vs, k9, by rw [t3.length, List.length_map, List.length_take]; exact small1000 (by omega), fun b o z => ?_, vs ++ [.ref p9], upd_same, ?_⟩
      · rw [upd_ne (ne_of_none z nD)]; exact (t1.trans s79) _ _ z
      · rw [List.take_add_one, hr_, List.map_append]
        exact AllAt.app (t3.map fun _ _ z => AtL.upd (z.same s79) k9) (.cons (AtL.upd ⟨p9, _, _, rfl, .inl (.inl g9), ⟨p7, rfl, .inl (.inl ((s8.trans s9) _ _ g7))⟩, ⟨p8, rfl, .inl (.inl (s9 _ _ g8))⟩⟩ k9) .nil)
    · obtain ⟨t1, vs, t2, t3⟩ := z
      rw [hall.length, List.take_length] at t3
      exact ⟨pD, vs, rfl, .inl (.inl t2), fun p8 H8 n8 s8 g8 => q _ _ (t1.trans s8) ⟨p8, vs, rfl, .inl (.inl g8), t3.map fun _ _ z => z.same s8⟩⟩


theorem ok_law_far_lines {f : Addr} {fd : FuncData} (F : Fun K "_law_far_lines" "_law_far_lines" s_law_far_lines f fd) (T : Bt mg) (D_law_draw : Def P w K mg base 1 "_law_draw" ["_law_deck_here", "_law_most"] spDraw) (D_law_moved : Def P w K mg base 1 "_law_moved" ["_law_lines_here", "_law_dx", "_law_dy"] (spMovedW K)) :
    FnG P w K mg base CX0 2 f fd ["_law_deck_here", "_law_grain_here", "_law_lines_here"] (spFarL24 K) := by
  refine okG (k := 1) F sc_law_far_lines (fun vs H Q E h => ?_) (fun cdv A outer s H vs Q E hr h => ?_)
  · obtain ⟨d, l, g, u, ls, rfl, _⟩ := h
    rfl
  · obtain ⟨d, l, g, u, ls, rfl, D, g0, g1, hT, l12, bd, q⟩ := h
    refine ⟨_, (pss_cons (ps_if (pt_cmpR op_gt (callD D_law_draw (hr.mono (by decide)) (pa_cons (pv 0) (pa_cons pe_int pa_nil))) pe_int (nomark _)) (pss_one (ps_ret (pv 2))) pss_nil)
      (pss_cons (ps_set (i := 3) sc_law_far_lines.nd rfl (.inl rfl) (pe_op op_fdivW pe_int (pv 1)))
      (pss_cons (ps_par (i := 4) (j := 5) (by rfl) sc_law_far_lines.nd rfl rfl (by decide) rfl rfl (pa_cons (pe_op op_sub (callD D_law_draw (hr.mono (by decide)) (pa_cons (pv 0) (pa_cons (pe_op op_add (pe_op op_mul pe_int (pv 3)) pe_int) pa_nil))) (pv 3)) (pa_cons (pe_op op_sub (callD D_law_draw (hr.mono (by decide)) (pa_cons (pv 0) (pa_cons (pe_op op_add (pe_op op_mul pe_int (pv 3)) pe_int) pa_nil))) (pv 3)) pa_nil)) (by rfl))
      (pss_one (ps_ret (callD D_law_moved (hr.mono (by decide)) (pa_cons (pv 2) (pa_cons (pe_op op_mul (pv 1) (pv 4)) (pa_cons (pe_op op_mul (pv 1) (pv 5)) pa_nil))))))))), ?_⟩
    obtain ⟨M, eM⟩ : ∃ M, M = 900000 / g := ⟨_, rfl⟩
    have M0 : 0 ≤ M := by rw [eM]; exact Int.ediv_nonneg (by decide) (Int.le_of_lt g0)
    have M1 : g * M ≤ 900000 := by rw [eM]; exact Int.mul_ediv_self_le (by omega)
    have M2 : M ≤ 900000 := by
      have := mulR (show 1 ≤ g by omega) M0
      omega
    refine ⟨.ref d, rfl, d, l, 4, rfl, by decide, by decide, D, fun x H1 x0 x1 S1 => ⟨_, _, rfl, rfl, _, rfl, ite2 (fun c => ?_) (fun c => ?_)⟩⟩
    · exact ⟨_, rfl, q _ _ ls S1 (hT.step24 S1 D) rfl fun r hr => ⟨bdN_up24 (bd r hr).1.1 (by decide), bdN_up24 (bd r hr).1.2 (by decide), (bd r hr).2⟩⟩
    · refine ⟨_, rfl, _, _, rfl, rfl, wide_div (b := 64) g0 (by omega) (by decide) (by decide), ?_⟩
      rw [show (fun i j => V.int (i / j)) 900000 g = V.int (900000 / g) from rfl, ← eM]
      refine ⟨.ref d, rfl, _, rfl, _, _, rfl, rfl, .inl (by decide), _, _, rfl, rfl, d, l, 2 * M + 1, rfl, by omega, by omega, S1.deck, fun a H2 a0 a1 S2 => ⟨_, rfl, _, _, rfl, rfl, .ref d, rfl, _, rfl, _, _, rfl, rfl, .inl (by decide), _, _, rfl, rfl, d, l, 2 * M + 1, rfl, by omega, by omega, S2.deck, fun b H3 b0 b1 S3 => ⟨_, rfl, _, _, rfl, rfl, _, _, rfl, ?_⟩⟩⟩
      have S13 := (S1.trans S2).trans S3
      refine ⟨_, rfl, _, rfl, _, rfl, _, _, rfl, rfl, .inl (by omega), _, rfl, _, rfl, _, _, rfl, rfl, .inl (by omega), u, ls, g * (a - M), g * (b - M), rfl, hT.step24 S13 D, by omega, fun w H4 s4 aw => ?_⟩
      have k : ∀ a : Int, 0 ≤ a → a < 2 * M + 1 → -900000 ≤ g * (a - M) ∧ g * (a - M) ≤ 900000 := fun a h0 h1 => by
        have p1 := mulL (show a - M ≤ M by omega) (Int.le_of_lt g0)
        have p2 := mulL (show -M ≤ a - M by omega) (Int.le_of_lt g0)
        rw [Int.mul_neg] at p2
        omega
      have ka := k a a0 a1
      have kb := k b b0 b1
      refine q w H4 _ (S13.trans (Step.of S13.deck s4)) aw (by rw [List.length_map]) fun r hr => ?_
      obtain ⟨r0, h0, rfl⟩ := List.mem_map.mp hr
      obtain ⟨⟨⟨⟨c1, c2⟩, c3, c4⟩, ⟨c5, c6⟩, c7, c8⟩, ne⟩ := bd r0 h0
      generalize g * (a - M) = X at ka
      generalize g * (b - M) = Y at kb
      refine ⟨⟨⟨by show _ ≤ r0.1.1 + X; omega, by show r0.1.1 + X ≤ _; omega⟩, by show _ ≤ r0.1.2 + Y; omega, by show r0.1.2 + Y ≤ _; omega⟩, ⟨⟨by show _ ≤ r0.2.1 + X; omega, by show r0.2.1 + X ≤ _; omega⟩, by show _ ≤ r0.2.2 + Y; omega, by show r0.2.2 + Y ≤ _; omega⟩, fun z => ne ?_⟩
      have z1 : r0.1.1 + X = r0.2.1 + X := congrArg Prod.fst z
      have z2 : r0.1.2 + Y = r0.2.2 + Y := congrArg Prod.snd z
      exact Prod.ext (by omega) (by omega)

theorem ok_law_told {f : Addr} {fd : FuncData} (F : Fun K "_law_told" "_law_told" s_law_told f fd) (T : Bt mg) (Doff_of : Def P w K mg base 5 "off_of" ["grain", "line", "path"] (spOffOf K)) :
    FnG P w K mg base CX0 6 f fd ["_law_grain_here", "_law_line_here", "_law_path_here", "_law_due"] (spTold24 K) := by
  refine okG (k := 5) F sc_law_told (fun vs H Q E h => ?_) (fun cdv A outer s H vs Q E hr h => ?_)
  · obtain ⟨g, v, u, x, r, ps, p, rfl, _⟩ := h
    rfl
  · obtain ⟨g, v, u, x, r, ps, p, rfl, hL, hu, hb, hx, hp, hz, q⟩ := h
    refine ⟨_, (pss_cons (ps_set (i := 4) sc_law_told.nd rfl (.inl rfl) (callD Doff_of (hr.mono (by decide)) (pa_cons (pv 0) (pa_cons (pv 1) (pa_cons (pv 2) pa_nil)))))
      (pss_one (ps_ret (pe_cmpR op_eq (pe_callB (call_repr hr.gd hr.room.units) (by rfl) T.repr (by decide +kernel) (pa_cons (pv 4) pa_nil)) (pe_callB (call_repr hr.gd hr.room.units) (by rfl) T.repr (by decide +kernel) (pa_cons (pv 3) pa_nil)) (nomark _))))), ?_⟩
    refine ⟨.int g, rfl, _, rfl, _, rfl, g, v, u, r, ps, rfl, hL, hu, hb, fun w H1 z s1 hO hB e1 => ?_⟩
    have ez := hz z hO
    rw [ez] at e1
    have FD : Fine (pd p) := (Fi.pt hp.1 hp.2).fine (by decide) (by decide)
    refine ⟨_, rfl, w, _, rfl, At2.dp e1, FD, _, rfl, x, _, rfl, At2.dp (hx.same s1), FD, rfl, ?_⟩
    rw [decide_eq_true rfl]
    exact q H1 s1

end
end Cl

set_option maxHeartbeats 0
namespace Cl
open PySem PySem.Spec PyProof.Rows L2
open GxR (TabB TabG)

theorem nodup_len {α : Type} [DecidableEq α] : ∀ (ms L : List α), ms.Nodup → (∀ x ∈ ms, x ∈ L) → ms.length ≤ L.length
  | [], _, _, _ => Nat.zero_le _
  | a :: ms, L, nd, h => by
    obtain ⟨n1, n2⟩ := List.nodup_cons.mp nd
    have ha := h a List.mem_cons_self
    have := nodup_len ms (L.erase a) n2 fun x hx => (List.mem_erase_of_ne (fun z => n1 (by rw [← z]; exact hx))).mpr (h x (List.mem_cons_of_mem _ hx))
    rw [List.length_erase_of_mem ha] at this
    have p : 0 < L.length := List.length_pos_of_mem ha
    rw [List.length_cons]
    omega
theorem stepLT {d l : Addr} {H H' : Hp} {P : Addr} {q : Str} (D : Deck H d l) (S : Step d l H H') (h : LT H P q) : LT H' P q := by
  obtain ⟨ns, s, c, h1, h2, _⟩ := D.ex
  obtain ⟨cs, e, t⟩ := h
  have k : ∀ {b : Addr} {φ : Heap → Prop}, H b = some (.ext φ) → H' b = some (.ext φ) := fun {b φ} z => S.at (ne_of z h1 (by intro z; cases z)) (ne_of z h2 (by intro z; cases z)) z
  exact ⟨cs, k e, fun c hc => ⟨(t c hc).1, k (t c hc).2⟩⟩
theorem sXT {K : PySem.W.Frag} {H H' : Hp} {P : Addr} {q : Str} {a : Addr} {xs : List V} (t : LT H P q) (s : SameX P H H') (h : SqT K H a xs) : SqT K H' a xs := seT s.to (dnT t h)
theorem lstX {PL a : Addr} {q : Str} {H H' : Hp} {xs : List V} (t : LT H PL q) (s : SameX PL H H') (h : H a = some (.lst xs)) : H' a = some (.lst xs) :=
  s a _ (fun z => by
    obtain ⟨cs, e, _⟩ := t
    rw [z, e] at h
    cases h) h
theorem ltU {H : Hp} {P M : Addr} {q : Str} {xs : List V} {o : HO} (t : LT H P q) (e : H M = some (.lst xs)) : LT (L2.upd H M o) P q := by
  obtain ⟨cs, e1, h⟩ := t
  have ne : ∀ {b : Addr} {φ : Heap → Prop}, H b = some (.ext φ) → b ≠ M := fun {b φ} e2 z => by
    rw [z, e] at e2
    cases e2
  exact ⟨cs, by rw [upd_ne (ne e1)]; exact e1, fun c hc => ⟨(h c hc).1, by rw [upd_ne (ne (h c hc).2)]; exact (h c hc).2⟩⟩
theorem deckX {d l P : Addr} {q : Str} {H H' : Hp} (D : Deck H d l) (t : LT H P q) (s : SameX P H H') : Deck H' d l := by
  obtain ⟨ns, s', c, h1, h2, h3⟩ := D.ex
  exact ⟨D.ne, ns, s', c, lstX t s h1, lstX t s h2, h3⟩
theorem AtP.sameX {K : PySem.W.Frag} {H H' : Hp} {P : Addr} {q : Str} {v : V} {ps : List Pt} (h : AtP K H v ps) (t : LT H P q) (s : SameX P H H') : AtP K H' v ps := by
  obtain ⟨a, vs, e, h1, h2⟩ := h
  exact ⟨a, vs, e, sXT t s h1, h2.map fun _ _ z => At2.sameX z t s⟩
theorem AtP.upd {K : PySem.W.Frag} {H : Hp} {M : Addr} {xs : List V} {o : HO} {v : V} {ps : List Pt} (h : AtP K H v ps) (e : H M = some (.lst xs)) : AtP K (L2.upd H M o) v ps := by
  obtain ⟨a, vs, e1, h1, h2⟩ := h
  exact ⟨a, vs, e1, updT e h1, h2.map fun _ _ z => At2.upd z e⟩
theorem AtP.step {K : PySem.W.Frag} {H H' : Hp} {d l : Addr} {v : V} {ps : List Pt} (h : AtP K H v ps) (S : Step d l H H') (D : Deck H d l) : AtP K H' v ps := by
  obtain ⟨a, vs, e, h1, h2⟩ := h
  exact ⟨a, vs, e, stT S D h1, h2.map fun _ _ z => z.step S D⟩
theorem AtT.sameX {K : PySem.W.Frag} {H H' : Hp} {P : Addr} {q : Str} {v : V} {ls : List Ln} (h : AtT K H v ls) (t : LT H P q) (s : SameX P H H') : AtT K H' v ls := by
  obtain ⟨a, vs, e, h1, h2⟩ := h
  exact ⟨a, vs, e, sXT t s h1, h2.map fun _ _ z => AtL.sameX z t s⟩
/-- several paths -/
def AtPs (K : PySem.W.Frag) (H : Hp) (v : V) (pss : List (List Pt)) : Prop := ∃ b ws, v = .ref b ∧ SqT K H b ws ∧ AllAt (AtP K H) ws pss
def AtDrw (K : PySem.W.Frag) (H : Hp) (v : V) (cs : List Pt) (pss : List (List Pt)) : Prop := ∃ a u x, v = .ref a ∧ SqT K H a [u, x] ∧ AtP K H u cs ∧ AtPs K H x pss
theorem AtPs.same {K : PySem.W.Frag} {H H' : Hp} {v : V} {pss : List (List Pt)} (h : AtPs K H v pss) (s : Same H H') : AtPs K H' v pss := by
  obtain ⟨a, vs, e, h1, h2⟩ := h
  exact ⟨a, vs, e, seT s h1, h2.map fun _ _ z => AtP.same z s⟩
theorem AtPs.sameX {K : PySem.W.Frag} {H H' : Hp} {P : Addr} {q : Str} {v : V} {pss : List (List Pt)} (h : AtPs K H v pss) (t : LT H P q) (s : SameX P H H') : AtPs K H' v pss := by
  obtain ⟨a, vs, e, h1, h2⟩ := h
  exact ⟨a, vs, e, sXT t s h1, h2.map fun _ _ z => AtP.sameX z t s⟩
theorem AtDrw.same {K : PySem.W.Frag} {H H' : Hp} {v : V} {cs : List Pt} {pss : List (List Pt)} (h : AtDrw K H v cs pss) (s : Same H H') : AtDrw K H' v cs pss := by
  obtain ⟨a, u, x, e, h1, h2, h3⟩ := h
  exact ⟨a, u, x, e, seT s h1, AtP.same h2 s, h3.same s⟩
theorem AtDrw.sameX {K : PySem.W.Frag} {H H' : Hp} {P : Addr} {q : Str} {v : V} {cs : List Pt} {pss : List (List Pt)} (h : AtDrw K H v cs pss) (t : LT H P q) (s : SameX P H H') : AtDrw K H' v cs pss := by
  obtain ⟨a, u, x, e, h1, h2, h3⟩ := h
  exact ⟨a, u, x, e, sXT t s h1, AtP.sameX h2 t s, h3.sameX t s⟩
def AllPth (g : Int) (ls : List Ln) (cs : List Pt) (pss : List (List Pt)) : Prop := pss.length = ls.length ∧ ∀ (k : Nat) r ps, ls[k]? = some r → pss[k]? = some ps → IsPath g r cs ps
theorem AllPth.one {g : Int} {ls : List Ln} {cs : List Pt} {a b : List (List Pt)} (hg : 0 < g) (h : AllPth g ls cs a) (h' : AllPth g ls cs b) : a = b := by
  refine List.ext_getElem (h.1.trans h'.1.symm) fun k h1 h2 => ?_
  have hk : k < ls.length := by rw [← h.1]; exact h1
  exact (h.2 k ls[k] a[k] (List.getElem?_eq_getElem hk) (List.getElem?_eq_getElem h1)).one hg (h'.2 k ls[k] b[k] (List.getElem?_eq_getElem hk) (List.getElem?_eq_getElem h2)) fun _ => Iff.rfl
theorem crs_bd {g : Int} {ls : List Ln} {cs : List Pt} (hg : 0 < g) (good : ∀ r ∈ ls, GoodLn 2000000 r) (h : Crs g ls cs) : ∀ c ∈ cs, BdN 2000001 c := fun c hc => cn_bd hg good ((h.mem c).mp hc)
theorem bdN_up {B C : Int} {p : Pt} (h : BdN B p) (hBC : B ≤ C) : BdN C p := by
  obtain ⟨⟨a, b⟩, c, d⟩ := h
  exact ⟨⟨by omega, by omega⟩, by omega, by omega⟩
theorem crs_len {g : Int} {ls : List Ln} {cs : List Pt} (good : ∀ r ∈ ls, r.1 ≠ r.2) (l12 : ls.length ≤ 12) (h : Crs g ls cs) : cs.length ≤ 90 := by
  have h1 : cs.length ≤ ((rowsP g ls).map (·.1)).length := nodup_len cs _ h.nd fun c hc => by
    obtain ⟨r, h2, h3⟩ := (rows_cn good c).mpr ((h.mem c).mp hc)
    exact List.mem_map.mpr ⟨r, h2, h3⟩
  rw [List.length_map] at h1
  exact Nat.le_trans h1 (rowsP_len l12)
def spOthers (K : PySem.W.Frag) : Sp := fun vs H Q _ => ∃ (d l : Addr) (u : V) (cs : List Pt), vs = [.ref d, u] ∧ Deck H d l ∧ AtP K H u cs ∧ (∀ c ∈ cs, BdN 2000001 c) ∧ cs.length ≤ 100 ∧
  ∀ w H' ds, Step d l H H' → AtP K H' w ds → ds.Nodup → (∀ c ∈ ds, BdN 3000000 c) → ds.length ≤ 110 → Q w H'

end Cl

set_option maxHeartbeats 0
namespace Cl
open PySem PySem.Spec PyProof.Rows L2
open GxR (TabB TabG)

def spLine6 (K : PySem.W.Frag) : Sp := fun vs H Q _ => ∃ (d l : Addr) (g : Int) (L : Addr) (ws : List V) (ls : List Ln), vs = [.ref d, .int g, .ref L] ∧ 0 < g ∧ g ≤ 1000 ∧ Deck H d l ∧
  L ≠ d ∧ L ≠ l ∧ H L = some (.lst ws) ∧ AllAt (AtL K H) ws ls ∧ ls.length ≤ 200 ∧ (∀ r ∈ ls, r.1 ≠ r.2) ∧
  ∀ w H' r', Step d l H H' → AtL K H' w r' → BdR 60000 r' → r'.1 ≠ r'.2 → Q w H'
def spLines6 (K : PySem.W.Frag) : Sp := fun vs H Q _ => ∃ (d l : Addr) (g : Int) (n : Nat), vs = [.ref d, .int g, .int n] ∧ 0 < g ∧ g ≤ 1000 ∧ 0 ≤ n ∧ n ≤ 200 ∧ Deck H d l ∧
  ∀ w H' ls, Step d l H H' → AtT K H' w ls → ls.length = n → (∀ r ∈ ls, BdR 60000 r ∧ r.1 ≠ r.2) → Q w H'

section
variable {P : Program} {w : World} {K : PySem.W.Frag} {mg : Str → Option Value} {base : Heap}

theorem ok_law_grain {f : Addr} {fd : FuncData} (F : Fun K "_law_grain" "_law_grain" s_law_grain f fd) (T : Bt mg) (D_law_draw : Def P w K mg base 1 "_law_draw" ["_law_deck_here", "_law_most"] spDraw) :
    FnG P w K mg base CX0 2 f fd ["_law_deck_here"] spGrainW := by
  refine okG (k := 1) F sc_law_grain (fun vs H Q E h => ?_) (fun cdv A outer s H vs Q E hr h => ?_)
  · obtain ⟨d, l, rfl, _⟩ := h
    rfl
  · obtain ⟨d, l, rfl, D, q⟩ := h
    refine ⟨_, (pss_one (ps_ret (pe_ix ix_list (lstN (pa_cons pe_int (pa_cons pe_int (pa_cons pe_int (pa_cons pe_int (pa_cons pe_int (pa_cons pe_int (pa_cons pe_int (pa_cons pe_int pa_nil))))))))) (callD D_law_draw (hr.mono (by decide)) (pa_cons (pv 0) (pa_cons pe_int pa_nil))) (fun _ _ => rfl)))), ?_⟩
    refine ⟨(by show 8 ≤ sizeLine; decide), fun p1 H1 n1 s1 g1 => ⟨.ref d, rfl, d, l, 8, rfl, by decide, by decide, (Step.of D s1).deck, fun i H2 i0 i1 S2 => ?_⟩⟩
    have np := D.nd n1
    have e2 := S2.at np.1 np.2 g1
    have S := (Step.of D s1).trans S2
    obtain rfl | rfl | rfl | rfl | rfl | rfl | rfl | rfl : i = 0 ∨ i = 1 ∨ i = 2 ∨ i = 3 ∨ i = 4 ∨ i = 5 ∨ i = 6 ∨ i = 7 := by omega
    all_goals exact ⟨p1, _, _, _, rfl, rfl, .inl (.inl e2), rfl, q _ _ (by decide) (by decide) S⟩


theorem ok_law_point {f : Addr} {fd : FuncData} (F : Fun K "_law_point" "_law_point" s_law_point f fd) (T : Bt mg) (D_law_draw : Def P w K mg base 1 "_law_draw" ["_law_deck_here", "_law_most"] spDraw) :
    FnG P w K mg base CX0 2 f fd ["_law_deck_here", "_law_grain_here", "_law_way"] (spPointW K) := by
  refine okG (k := 1) F sc_law_point (fun vs H Q E h => ?_) (fun cdv A outer s H vs Q E hr h => ?_)
  · obtain ⟨d, l, g, way, rfl, _⟩ := h
    rfl
  · obtain ⟨d, l, g, way, rfl, h0, h1, D, q⟩ := h
    refine ⟨_, (pss_cons (ps_par (i := 3) (j := 4) (by rfl) sc_law_point.nd rfl rfl (by decide) rfl rfl (pa_cons (callD D_law_draw (hr.mono (by decide)) (pa_cons (pv 0) (pa_cons (pe_op op_add (pe_op op_mul pe_int (pv 1)) pe_int) pa_nil))) (pa_cons (callD D_law_draw (hr.mono (by decide)) (pa_cons (pv 0) (pa_cons (pe_op op_add (pe_op op_mul pe_int (pv 1)) pe_int) pa_nil))) pa_nil)) (by rfl))
      (pss_cons (ps_if (pt_cmpR op_eq (pv 2) pe_int (nomark _)) (pss_one (ps_ret (tupN (pa_cons (pe_op op_fdiv (pe_op op_add (pe_op op_mul (pe_op op_fdivW (pe_op op_mul pe_int (pv 3)) (pv 1)) (pv 1)) pe_int) pe_int) (pa_cons (pe_op op_fdiv (pe_op op_add (pe_op op_mul (pe_op op_fdivW (pe_op op_mul pe_int (pv 4)) (pv 1)) (pv 1)) pe_int) pe_int) pa_nil))))) pss_nil)
      (pss_cons (ps_if (pt_cmpR op_eq (pv 2) pe_int (nomark _)) (pss_one (ps_ret (tupN (pa_cons (pe_op op_mul (pe_op op_fdivW (pv 3) (pv 1)) (pv 1)) (pa_cons (pe_op op_mul (pe_op op_fdivW (pv 4) (pv 1)) (pv 1)) pa_nil))))) pss_nil)
      (pss_cons (ps_if (pt_cmpR op_eq (pv 2) pe_int (nomark _)) (pss_one (ps_ret (tupN (pa_cons (pe_op op_add (pe_op op_mul (pe_op op_fdivW (pv 3) (pv 1)) (pv 1)) (pe_op op_fdiv (pv 1) pe_int)) (pa_cons (pv 4) pa_nil))))) pss_nil)
      (pss_one (ps_ret (tupN (pa_cons (pv 3) (pa_cons (pv 4) pa_nil))))))))), ?_⟩
    refine ⟨.ref d, rfl, _, rfl, _, _, rfl, rfl, .inl (by decide), _, _, rfl, rfl, d, l, _, rfl, by omega, by omega, D, fun x H2 x0 x1 S2 => ⟨.ref d, rfl, _, rfl, _, _, rfl, rfl, .inl (by decide), _, _, rfl, rfl, d, l, _, rfl, by omega, by omega, S2.deck, fun y H3 y0 y1 S3 => ⟨_, _, rfl, ?_⟩⟩⟩
    have S := S2.trans S3
    have dv : ∀ n : Int, CDivW n g := fun n => wide_div (b := 64) h0 (by omega) (by decide) (by decide)
    have mg : ∀ n : Int, CMul n g := fun n => .inr (by omega)
    have fin : ∀ {p : Pt} {pp : Addr} {H4 : Hp}, Same H3 H4 → H4 pp = some (.tup [.int p.1, .int p.2]) → BdN 5000 p → Q (.ref pp) H4 := fun {p pp H4} s e b => q _ _ p (S.trans (Step.of S3.deck s)) ⟨pp, rfl, .inl (.inl e)⟩ b
    have fl : ∀ n : Int, 0 ≤ n → 0 ≤ n / g * g ∧ n / g * g ≤ n := fun n hn => ⟨Int.mul_nonneg (Int.ediv_nonneg hn (by omega)) (by omega), Int.ediv_mul_le n (by omega)⟩
    refine ⟨_, rfl, rfl, _, rfl, ite2 (fun e => ?_) (fun e => ?_)⟩
    · refine ⟨_, rfl, _, _, rfl, rfl, .inl (by decide), _, rfl, _, _, rfl, rfl, dv _, _, rfl, _, _, rfl, rfl, mg _, _, _, rfl, rfl, _, _, rfl, rfl, ⟨by decide, by decide⟩,
        _, rfl, _, _, rfl, rfl, .inl (by decide), _, rfl, _, _, rfl, rfl, dv _, _, rfl, _, _, rfl, rfl, mg _, _, _, rfl, rfl, _, _, rfl, rfl, ⟨by decide, by decide⟩, (by show 2 ≤ sizeLine; decide), fun p6 H6 n6 s6 g6 => ?_⟩
      have a1 := fl (2 * x) (by omega)
      have a2 := fl (2 * y) (by omega)
      exact fin (p := ((2 * x / g * g + 1) / 2, (2 * y / g * g + 1) / 2)) s6 g6 (by unfold BdN; simp only; omega)
    refine ⟨_, rfl, rfl, _, rfl, ite2 (fun e => ?_) (fun e => ?_)⟩
    · refine ⟨_, rfl, _, rfl, _, _, rfl, rfl, dv _, _, rfl, _, _, rfl, rfl, mg _, _, rfl, _, rfl, _, _, rfl, rfl, dv _, _, rfl, _, _, rfl, rfl, mg _, (by show 2 ≤ sizeLine; decide), fun p6 H6 n6 s6 g6 => ?_⟩
      have a1 := fl x (by omega)
      have a2 := fl y (by omega)
      exact fin (p := (x / g * g, y / g * g)) s6 g6 (by unfold BdN; simp only; omega)
    refine ⟨_, rfl, rfl, _, rfl, ite2 (fun e => ?_) (fun e => ?_)⟩
    · refine ⟨_, rfl, _, rfl, _, _, rfl, rfl, dv _, _, rfl, _, _, rfl, rfl, mg _, _, rfl, _, _, rfl, rfl, ⟨by decide, by decide⟩, _, _, rfl, rfl, _, rfl, (by show 2 ≤ sizeLine; decide), fun p6 H6 n6 s6 g6 => ?_⟩
      have a1 := fl x (by omega)
      exact fin (p := (x / g * g + g / 2, y)) s6 g6 (by unfold BdN; simp only; omega)
    · exact ⟨_, rfl, _, rfl, (by show 2 ≤ sizeLine; decide), fun p6 H6 n6 s6 g6 => fin (p := (x, y)) s6 g6 (by unfold BdN; simp only; omega)⟩


theorem ok_law_unlike {f : Addr} {fd : FuncData} (F : Fun K "_law_unlike" "_law_unlike" s_law_unlike f fd) (T : Bt mg) :
    FnG P w K mg base CX0 1 f fd ["_law_one", "_law_other"] (spUnlike K) := by
  refine okG (k := 0) F sc_law_unlike (fun vs H Q E h => ?_) (fun cdv A outer s H vs Q E hr h => ?_)
  · obtain ⟨u, v, p, q, rfl, _⟩ := h
    rfl
  · obtain ⟨u, v, p, p2, rfl, hp, hq, q⟩ := h
    refine ⟨_, (pss_one (ps_ret (tupN (pa_cons (pv 0) (pa_cons (pe_ix ix_list (lstN (pa_cons (pv 1) (pa_cons (tupN (pa_cons (pe_op op_add (pe_ix ix_tup (pv 0) pe_int (fun _ _ => rfl)) pe_int) (pa_cons (pe_ix ix_tup (pv 0) pe_int (fun _ _ => rfl)) pa_nil))) pa_nil))) (pe_callTy call_int1 (by rfl) T.int (by decide +kernel) (pa_cons (pe_cmpR (op_eqD hr.room.units) (pv 0) (pv 1) (nomark _)) pa_nil)) (fun _ _ => rfl)) pa_nil))))), ?_⟩
    obtain ⟨a, rfl, ha⟩ := id hp
    refine ⟨_, rfl, _, rfl, _, rfl, a, _, 0, _, rfl, rfl, ha, rfl, _, _, rfl, rfl, _, rfl, a, _, 1, _, rfl, rfl, ha, rfl, (by show 2 ≤ sizeLine; decide), fun p6 H6 n6 s6 g6 => ⟨(by show 2 ≤ sizeLine; decide), fun p7 H7 n7 s7 g7 => ?_⟩⟩
    have s67 := s6.trans s7
    refine ⟨_, rfl, _, rfl, _, _, (hp.same s67).dp, (hq.same s67).dp, rfl, rfl, .inr ⟨_, rfl, ?_⟩⟩
    by_cases e : p = p2
    · subst e
      rw [SeqAt.eqv_refl _ rfl]
      refine ⟨p7, _, 1, _, rfl, rfl, .inl (.inl g7), rfl, (by show 2 ≤ sizeLine; decide), fun p8 H8 n8 s8 g8 => ?_⟩
      exact q _ _ (p, (p.1 + 1, p.2)) (s67.trans s8) ⟨p8, _, _, rfl, .inl (.inl g8), hp.same (s67.trans s8), ⟨p6, rfl, .inl (.inl ((s7.trans s8) _ _ g6))⟩⟩ rfl (fun z => by have := congrArg Prod.fst z; simp only at this; omega) (.inr rfl)
    · have hne : PyData.eqv (pd p) (pd p2) = false := by
        cases hz : PyData.eqv (pd p) (pd p2) with
        | false => rfl
        | true =>
          exfalso
          apply e
          simp [pd, PyData.eqv, PyData.eqvAll] at hz
          exact Prod.ext hz.1 hz.2
      rw [hne]
      refine ⟨p7, _, 0, _, rfl, rfl, .inl (.inl g7), rfl, (by show 2 ≤ sizeLine; decide), fun p8 H8 n8 s8 g8 => ?_⟩
      exact q _ _ (p, p2) (s67.trans s8) ⟨p8, _, _, rfl, .inl (.inl g8), hp.same (s67.trans s8), hq.same (s67.trans s8)⟩ rfl e (.inl rfl)


theorem ok_law_line {f : Addr} {fd : FuncData} (F : Fun K "_law_line" "_law_line" s_law_line f fd) (T : Bt mg) (D_law_draw : Def P w K mg base 1 "_law_draw" ["_law_deck_here", "_law_most"] spDraw) (D_law_unlike : Def P w K mg base 1 "_law_unlike" ["_law_one", "_law_other"] (spUnlike K)) (D_law_point : Def P w K mg base 2 "_law_point" ["_law_deck_here", "_law_grain_here", "_law_way"] (spPointW K)) :
    FnG P w K mg base CX0 3 f fd ["_law_deck_here", "_law_grain_here", "_law_lines_here"] (spLine6 K) := by
  refine okG (k := 2) F sc_law_line (fun vs H Q E h => ?_) (fun cdv A outer s H vs Q E hr h => ?_)
  · obtain ⟨d, l, g, L, ws, ls, rfl, _⟩ := h
    rfl
  · obtain ⟨d, l, g, L, ws, ls, rfl, h0, h1, D, nd_, nl_, hL, hall, hlen, hne, q⟩ := h
    refine ⟨_, (pss_cons (ps_set (i := 3) sc_law_line.nd rfl (.inl rfl) (callD D_law_draw (hr.mono (by decide)) (pa_cons (pv 0) (pa_cons pe_int pa_nil))))
      (pss_cons (ps_set (i := 4) sc_law_line.nd rfl (.inl rfl) (callD D_law_point (hr.mono (by decide)) (pa_cons (pv 0) (pa_cons (pv 1) (pa_cons (pe_op op_mod (pv 3) pe_int) pa_nil)))))
      (pss_cons (ps_set (i := 5) sc_law_line.nd rfl (.inl rfl) (callD D_law_point (hr.mono (by decide)) (pa_cons (pv 0) (pa_cons (pv 1) (pa_cons (callD D_law_draw (hr.mono (by decide)) (pa_cons (pv 0) (pa_cons pe_int pa_nil))) pa_nil)))))
      (pss_cons (ps_if (PW.pt (pw_or (pt_cmpR (op_eqD hr.room.units) (pv 2) (lstN pa_nil) (nomark _)) (pw_or1 (pt_cmpR op_lt (pv 3) pe_int (nomark _))))) (pss_one (ps_ret (callD D_law_unlike (hr.mono (by decide)) (pa_cons (pv 4) (pa_cons (pv 5) pa_nil))))) pss_nil)
      (pss_cons (ps_asg (pe_ix ix_list (pv 2) (callD D_law_draw (hr.mono (by decide)) (pa_cons (pv 0) (pa_cons (pe_callB call_len_seq (by rfl) T.len (by decide +kernel) (pa_cons (pv 2) pa_nil)) pa_nil))) (fun _ _ => rfl)) (pg_tup (by rfl) (pgs_cons (pg_tup (by rfl) (pgs_cons (pg_name (i := 6) sc_law_line.nd rfl (.inl rfl)) (pgs_cons (pg_name (i := 7) sc_law_line.nd rfl (.inl rfl)) pgs_nil))) (pgs_cons (pg_tup (by rfl) (pgs_cons (pg_name (i := 8) sc_law_line.nd rfl (.inl rfl)) (pgs_cons (pg_name (i := 9) sc_law_line.nd rfl (.inl rfl)) pgs_nil))) pgs_nil))))
      (pss_cons (ps_if (pt_cmpR op_gt (pe_callB (cr_max rfl) (by rfl) T.max (by decide +kernel) (pa_cons (pe_lc (own := [("_law_number", 10)]) (g := gName 10) (tt := tYes) (by rfl) sc_law_line.nd (pi_tup (tupN (pa_cons (pv 6) (pa_cons (pv 7) (pa_cons (pv 8) (pa_cons (pv 9) pa_nil)))))) (blkOk_by (own := [("_law_number", 10)]) (N := ["_law_deck_here", "_law_grain_here", "_law_lines_here", "_law_way", "_law_one", "_law_other", "_law_x", "_law_y", "_law_u", "_law_v", "_law_number"]) (sc := defScope s_law_line) (by decide +kernel)) (fun _ _ _ _ _ => (pg_name (i := 10) sc_law_line.nd rfl (.inl rfl))) (fun _ _ _ _ _ => pts_nil) (fun _ _ _ _ _ => (pe_callB call_abs (by rfl) T.abs (by decide +kernel) (pa_cons (pv 10) pa_nil)))) pa_nil)) (pe_op op_mul pe_int (pv 1)) (nomark _)) (pss_one (ps_ret (callD D_law_unlike (hr.mono (by decide)) (pa_cons (pv 4) (pa_cons (pv 5) pa_nil))))) pss_nil)
      (pss_cons (ps_if (pt_cmpR op_eq (pv 3) pe_int (nomark _)) (pss_one (ps_ret (callD D_law_unlike (hr.mono (by decide)) (pa_cons (tupN (pa_cons (pv 8) (pa_cons (pv 9) pa_nil))) (pa_cons (pv 5) pa_nil))))) pss_nil)
      (pss_cons (ps_if (pt_cmpR op_eq (pv 3) pe_int (nomark _)) (pss_one (ps_ret (callD D_law_unlike (hr.mono (by decide)) (pa_cons (pv 4) (pa_cons (tupN (pa_cons (pe_op op_sub (pe_op op_add (pv 6) (pv 8)) (pe_ix ix_tup (pv 4) pe_int (fun _ _ => rfl))) (pa_cons (pe_op op_sub (pe_op op_add (pv 7) (pv 9)) (pe_ix ix_tup (pv 4) pe_int (fun _ _ => rfl))) pa_nil))) pa_nil))))) pss_nil)
      (pss_cons (ps_if (pt_cmpR op_eq (pv 3) pe_int (nomark _)) (pss_one (ps_ret (tupN (pa_cons (tupN (pa_cons (pv 8) (pa_cons (pv 9) pa_nil))) (pa_cons (tupN (pa_cons (pe_op op_sub (pe_op op_mul pe_int (pv 8)) (pv 6)) (pa_cons (pe_op op_sub (pe_op op_mul pe_int (pv 9)) (pv 7)) pa_nil))) pa_nil))))) pss_nil)
      (pss_one (ps_ret (pe_ix ix_list (lstN (pa_cons (tupN (pa_cons (tupN (pa_cons (pv 6) (pa_cons (pv 7) pa_nil))) (pa_cons (tupN (pa_cons (pv 8) (pa_cons (pv 9) pa_nil))) pa_nil))) (pa_cons (tupN (pa_cons (tupN (pa_cons (pv 8) (pa_cons (pv 9) pa_nil))) (pa_cons (tupN (pa_cons (pv 6) (pa_cons (pv 7) pa_nil))) pa_nil))) (pa_cons (tupN (pa_cons (tupN (pa_cons (pv 6) (pa_cons (pv 7) pa_nil))) (pa_cons (tupN (pa_cons (pe_op op_sub (pe_op op_mul pe_int (pv 8)) (pv 6)) (pa_cons (pe_op op_sub (pe_op op_mul pe_int (pv 9)) (pv 7)) pa_nil))) pa_nil))) pa_nil)))) (callD D_law_draw (hr.mono (by decide)) (pa_cons (pv 0) (pa_cons pe_int pa_nil))) (fun _ _ => rfl))))))))))))), ?_⟩
    have lw := hall.length
    refine ⟨.ref d, rfl, d, l, 9, rfl, by decide, by decide, D, fun way H1 w0 w1 S1 => ?_⟩
    refine ⟨.ref d, rfl, _, rfl, _, rfl, _, _, rfl, rfl, (by show (0 : Int) < 4; decide), d, l, g, _, rfl, h0, h1, S1.deck, fun m1 H2 p S2 e2 b2 => ?_⟩
    refine ⟨.ref d, rfl, _, rfl, .ref d, rfl, d, l, 4, rfl, by decide, by decide, S2.deck, fun w2 Hw w20 w21 Sw => ⟨d, l, g, w2, rfl, h0, h1, Sw.deck, fun m2 H3 p2 S3 e3 b3 => ?_⟩⟩
    have S := ((S1.trans S2).trans Sw).trans S3
    have D3 := S3.deck
    have f2 := e2.step (Sw.trans S3) S2.deck
    have hL3 := S.at nd_ nl_ hL
    unfold BdN at b2 b3
    have all3 : AllAt (AtL K H3) ws ls := hall.map fun _ _ z => z.step S D
    have un : ∀ {H4 : Hp} {m n : V} {p p2 : Pt}, Step d l H3 H4 → At2 K H4 m p → At2 K H4 n p2 → BdN 50000 p → BdN 50000 p2 → spUnlike K [m, n] H4 Q E0 := fun {H4 m n p p2} S4 a1 a2 b1 b2 =>
      ⟨m, n, p, p2, rfl, a1, a2, fun w H5 r' s5 e5 r1 r2 r3 => q _ _ _ ((S.trans S4).trans (Step.of S4.deck s5)) e5 ⟨by rw [r1]; unfold BdN at *; omega, by rcases r3 with z | z <;> rw [z] <;> unfold BdN at * <;> (try simp only) <;> omega⟩ r2⟩
    have un0 : ∀ {H4 : Hp}, Step d l H3 H4 → spUnlike K [m1, m2] H4 Q E0 := fun {H4} S4 => un S4 (f2.step S4 D3) (e3.step S4 D3) (by unfold BdN; omega) (by unfold BdN; omega)
    have ln : ∀ {m n : V} {p p3 : Pt} {pp : Addr} {H4 H5 : Hp}, Step d l H3 H4 → Same H4 H5 → H5 pp = some (.tup [m, n]) → At2 K H5 m p → At2 K H5 n p3 → BdR 60000 (p, p3) → p ≠ p3 → Q (.ref pp) H5 := fun {m n p p3 pp H4 H5} S4 s e h1 h2 gd gn =>
      q _ _ (p, p3) ((S.trans S4).trans (Step.of S4.deck s)) ⟨pp, m, n, rfl, .inl (.inl e), h1, h2⟩ gd gn
    refine ⟨_, rfl, Nat.zero_le _, fun pe He ne se ge => ?_⟩
    have Se := Step.of D3 se
    refine ⟨_, _, .lst (.inl (.inl (se _ _ hL3))) (lines_dp (all3.map fun _ _ z => z.same se)), .lst (.inl (.inl ge)) .nil, shapedLines ls, rfl, _, rfl, ?_⟩
    show if PyData.eqv (.list (ls.map dl)) (.list []) = true then _ else _
    rw [eqvNilL]
    refine ite2 (fun e => iteT ⟨_, rfl, _, rfl, un0 Se⟩) (fun e => ?_)
    have npos : 0 < ls.length := by
      cases ls with
      | nil => exact absurd rfl e
      | cons a b => simp
    refine ⟨_, rfl, _, _, rfl, rfl, _, rfl, ite2 (fun e => ⟨_, rfl, _, rfl, un0 Se⟩) (fun e => ?_)⟩
    -- line = lines[draw(len(lines))]
    refine ⟨_, rfl, .ref d, rfl, _, rfl, L, _, rfl, .inl (.inl (.inl (se _ _ hL3))), d, l, _, rfl, by omega, by omega, Se.deck, fun i H4 i0 i1 S4 => ?_⟩
    have Sx := Se.trans S4
    have hL4 := S4.at nd_ nl_ (se _ _ hL3)
    have i2 : i.toNat < ws.length := by omega
    obtain ⟨v, hv⟩ : ∃ v, ws[i.toNat]? = some v := ⟨_, List.getElem?_eq_getElem i2⟩
    obtain ⟨r, hr_, hvr⟩ := (all3.map fun _ _ z => z.step Sx D3).get hv
    have rne := hne r (List.mem_of_getElem? hr_)
    have rne2 : ∀ x y : Int, (x = r.2.1 ∧ y = r.2.2 → (x, y) ≠ (2 * r.2.1 - r.1.1, 2 * r.2.2 - r.1.2)) := fun x y hxy z => rne (Prod.ext (by have := congrArg Prod.fst z; simp only at this; omega) (by have := congrArg Prod.snd z; simp only at this; omega))
    have rne3 : r.1 ≠ (2 * r.2.1 - r.1.1, 2 * r.2.2 - r.1.2) := fun z => rne (Prod.ext (by have := congrArg Prod.fst z; simp only at this; omega) (by have := congrArg Prod.snd z; simp only at this; omega))
    have ei : i = (i.toNat : Int) := by omega
    refine ⟨L, ws, i, v, rfl, rfl, .inl (.inl hL4), by rw [ei]; exact atI_nat hv, ?_⟩
    obtain ⟨a, _, _, ea, hS, ⟨b, rfl, hb⟩, ⟨c, rfl, hc⟩⟩ := id hvr
    subst ea
    refine ⟨a, _, rfl, hS, rfl, _, _, rfl, b, _, rfl, hb, rfl, _, _, rfl, _, _, rfl, rfl, _, _, rfl, c, _, rfl, hc, rfl, _, _, rfl, _, _, rfl, rfl, rfl, ?_⟩
    -- max(abs ..)
    refine ⟨_, rfl, _, rfl, _, rfl, _, rfl, (by show 4 ≤ sizeLine; decide), fun p5 H5 n5 s5 g5 => ⟨p5, rfl, ⟨_, .inl (.inl g5)⟩, fun pD nD => ?_⟩⟩
    refine lcT (K := K) (a := p5) (xs := [.int r.1.1, .int r.1.2, .int r.2.1, .int r.2.2]) (fun i H' => Same H5 H' ∧ H' pD = some (.lst ((([r.1.1, r.1.2, r.2.1, r.2.2].take i).map fun z : Int => if z < 0 then -z else z).map V.int))) nD (fun H' e1 e2 => ⟨e1, e2⟩) (fun i H' _ z => seT z.1 (.inl (.inl g5))) (fun i z H' hz w => ?_) (fun H6 z => ?_)
    · obtain ⟨t1, t2⟩ := w
      have hk : ∃ k : Int, z = .int k ∧ [r.1.1, r.1.2, r.2.1, r.2.2][i]? = some k := by
        match i, hz with
        | 0, hz => exact ⟨_, (Option.some.inj hz).symm, rfl⟩
        | 1, hz => exact ⟨_, (Option.some.inj hz).symm, rfl⟩
        | 2, hz => exact ⟨_, (Option.some.inj hz).symm, rfl⟩
        | 3, hz => exact ⟨_, (Option.some.inj hz).symm, rfl⟩
        | i + 4, hz => cases hz
      obtain ⟨k, rfl, hk⟩ := hk
      refine ⟨rfl, _, rfl, _, rfl, _, t2, ?_, ?_, ?_⟩
      · rw [List.length_map, List.length_map, List.length_take]; exact small1000 (by show min i 4 ≤ 1000; omega)
      · intro b o e
        rw [upd_ne (ne_of_none e nD)]
        exact t1 _ _ e
      · rw [upd_same, List.take_add_one, hk, List.map_append, List.map_append]
        rfl
    · obtain ⟨t1, t2⟩ := z
      refine ⟨pD, _, rfl, .inl (.inl t2), by simp, fun m hm hle => ?_⟩
      have S6 := Sx.trans (Step.of S4.deck (s5.trans t1))
      have s46 := s5.trans t1
      refine ⟨_, rfl, _, _, rfl, rfl, .inl (by decide), _, _, rfl, rfl, _, rfl, ite2 (fun e => ⟨_, rfl, _, rfl, un0 S6⟩) (fun e => ?_)⟩
      have em : ¬ (12 * g < m) := fun z => e (decide_eq_true z)
      have bd : ∀ z ∈ [r.1.1, r.1.2, r.2.1, r.2.2], -12000 ≤ z ∧ z ≤ 12000 := fun z hz => by
        have := hle _ (List.mem_map.mpr ⟨z, hz, rfl⟩)
        split at this <;> omega
      have c1 := bd r.1.1 (by simp)
      have c2 := bd r.1.2 (by simp)
      have c3 := bd r.2.1 (by simp)
      have c4 := bd r.2.2 (by simp)
      refine ⟨_, rfl, rfl, _, rfl, ite2 (fun e => ?_) (fun e => ?_)⟩
      · refine ⟨_, rfl, _, rfl, (by show 2 ≤ sizeLine; decide), fun p7 H7 n7 s7 g7 => ⟨_, rfl, ?_⟩⟩
        have S7 := S6.trans (Step.of S6.deck s7)
        exact un (p := r.2) S7 ⟨p7, rfl, .inl (.inl g7)⟩ (e3.step S7 D3) (by unfold BdN; omega) (by unfold BdN; omega)
      refine ⟨_, rfl, rfl, _, rfl, ite2 (fun e => ?_) (fun e => ?_)⟩
      · obtain ⟨a2, ea2, ha2⟩ := f2.step S6 D3
        subst ea2
        refine ⟨_, rfl, _, rfl, _, rfl, _, _, rfl, rfl, _, rfl, a2, _, 0, _, rfl, rfl, ha2, rfl, _, _, rfl, rfl, _, rfl, _, rfl, _, _, rfl, rfl, _, rfl, a2, _, 1, _, rfl, rfl, ha2, rfl, _, _, rfl, rfl, (by show 2 ≤ sizeLine; decide), fun p7 H7 n7 s7 g7 => ?_⟩
        have S7 := S6.trans (Step.of S6.deck s7)
        exact un (p2 := (r.1.1 + r.2.1 - p.1, r.1.2 + r.2.2 - p.2)) S7 ⟨a2, rfl, seT s7 ha2⟩ ⟨p7, rfl, .inl (.inl g7)⟩ (by unfold BdN; omega) (by unfold BdN; simp only; omega)
      refine ⟨_, rfl, rfl, _, rfl, ite2 (fun e => ?_) (fun e => ?_)⟩
      · refine ⟨_, rfl, _, rfl, (by show 2 ≤ sizeLine; decide), fun p7 H7 n7 s7 g7 => ?_⟩
        refine ⟨_, rfl, _, _, rfl, rfl, .inl (by decide), _, rfl, _, _, rfl, rfl, _, rfl, _, _, rfl, rfl, .inl (by decide), _, rfl, _, _, rfl, rfl, (by show 2 ≤ sizeLine; decide), fun p8 H8 n8 s8 g8 => ⟨(by show 2 ≤ sizeLine; decide), fun p9 H9 n9 s9 g9 => ?_⟩⟩
        exact ln (p := r.2) (p3 := (2 * r.2.1 - r.1.1, 2 * r.2.2 - r.1.2)) S6 ((s7.trans s8).trans s9) g9 ⟨p7, rfl, .inl (.inl ((s8.trans s9) _ _ g7))⟩ ⟨p8, rfl, .inl (.inl (s9 _ _ g8))⟩ ⟨by unfold BdN; simp only; omega, by unfold BdN; simp only; omega⟩ (rne2 _ _ ⟨rfl, rfl⟩)
      · refine ⟨_, rfl, _, rfl, (by show 2 ≤ sizeLine; decide), fun q1 G1 m1_ t1_ k1 => ⟨_, rfl, _, rfl, (by show 2 ≤ sizeLine; decide), fun q2 G2 m2_ t2_ k2 => ⟨(by show 2 ≤ sizeLine; decide), fun q3 G3 m3_ t3_ k3 => ?_⟩⟩⟩
        refine ⟨_, rfl, _, rfl, (by show 2 ≤ sizeLine; decide), fun q4 G4 m4_ t4_ k4 => ⟨_, rfl, _, rfl, (by show 2 ≤ sizeLine; decide), fun q5 G5 m5_ t5_ k5 => ⟨(by show 2 ≤ sizeLine; decide), fun q6 G6 m6_ t6_ k6 => ?_⟩⟩⟩
        refine ⟨_, rfl, _, rfl, (by show 2 ≤ sizeLine; decide), fun q7 G7 m7_ t7_ k7 => ?_⟩
        refine ⟨_, rfl, _, _, rfl, rfl, .inl (by decide), _, rfl, _, _, rfl, rfl, _, rfl, _, _, rfl, rfl, .inl (by decide), _, rfl, _, _, rfl, rfl, (by show 2 ≤ sizeLine; decide), fun q8 G8 m8_ t8_ k8 => ⟨(by show 2 ≤ sizeLine; decide), fun q9 G9 m9_ t9_ k9 => ⟨(by show 3 ≤ sizeLine; decide), fun q0 G0 m0_ t0_ k0 => ?_⟩⟩⟩
        have u90 := t0_
        have u80 := t9_.trans u90
        have u70 := t8_.trans u80
        have u60 := t7_.trans u70
        have u50 := t6_.trans u60
        have u40 := t5_.trans u50
        have u30 := t4_.trans u40
        have u20 := t3_.trans u30
        have u10 := t2_.trans u20
        have u00 := t1_.trans u10
        have S0 := S6.trans (Step.of S6.deck u00)
        refine ⟨.ref d, rfl, d, l, 3, rfl, by decide, by decide, S0.deck, fun j Hj j0 j1 Sj => ?_⟩
        have np := (S6.trans (Step.of S6.deck (((((((((t1_.trans t2_).trans t3_).trans t4_).trans t5_).trans t6_).trans t7_).trans t8_).trans t9_)))).deck.nd m0_
        have k0' := Sj.at np.1 np.2 k0
        have D0 := S0.deck
        have Sfin := S.trans (S0.trans Sj)
        obtain rfl | rfl | rfl : j = 0 ∨ j = 1 ∨ j = 2 := by omega
        · refine ⟨q0, _, 0, _, rfl, rfl, .inl (.inl k0'), rfl, q _ _ r Sfin (AtL.step ⟨q3, _, _, rfl, .inl (.inl (u30 _ _ k3)), ⟨q1, rfl, .inl (.inl (u10 _ _ k1))⟩, ⟨q2, rfl, .inl (.inl (u20 _ _ k2))⟩⟩ Sj D0) ⟨by unfold BdN; omega, by unfold BdN; omega⟩ rne⟩
        · refine ⟨q0, _, 1, _, rfl, rfl, .inl (.inl k0'), rfl, q _ _ (r.2, r.1) Sfin (AtL.step ⟨q6, _, _, rfl, .inl (.inl (u60 _ _ k6)), ⟨q4, rfl, .inl (.inl (u40 _ _ k4))⟩, ⟨q5, rfl, .inl (.inl (u50 _ _ k5))⟩⟩ Sj D0) ⟨by unfold BdN; simp only; omega, by unfold BdN; simp only; omega⟩ rne.symm⟩
        · refine ⟨q0, _, 2, _, rfl, rfl, .inl (.inl k0'), rfl, q _ _ (r.1, (2 * r.2.1 - r.1.1, 2 * r.2.2 - r.1.2)) Sfin (AtL.step ⟨q9, _, _, rfl, .inl (.inl (u90 _ _ k9)), ⟨q7, rfl, .inl (.inl (u70 _ _ k7))⟩, ⟨q8, rfl, .inl (.inl (u80 _ _ k8))⟩⟩ Sj D0) ⟨by unfold BdN; simp only; omega, by unfold BdN; simp only; omega⟩ rne3⟩


theorem ok_law_lines {f : Addr} {fd : FuncData} (F : Fun K "_law_lines" "_law_lines" s_law_lines f fd) (T : Bt mg) (D_law_draw : Def P w K mg base 1 "_law_draw" ["_law_deck_here", "_law_most"] spDraw) (D_law_line : Def P w K mg base 3 "_law_line" ["_law_deck_here", "_law_grain_here", "_law_lines_here"] (spLine6 K)) :
    FnG P w K mg base CX0 4 f fd ["_law_deck_here", "_law_grain_here", "_law_many"] (spLines6 K) := by
  refine okG (k := 3) F sc_law_lines (fun vs H Q E h => ?_) (fun cdv A outer s H vs Q E hr h => ?_)
  · obtain ⟨d, l, g, n, rfl, _⟩ := h
    rfl
  · obtain ⟨d, l, g, n, rfl, h0, h1, hn0, hn1, D, q⟩ := h
    refine ⟨_, (pss_cons (ps_set (i := 3) sc_law_lines.nd rfl (.inl rfl) (lstN pa_nil))
      (pss_cons (ps_for PassesOwn.never rfl (pi_range1 (by rfl) T.range (pa_cons (pv 2) pa_nil)) (pg_name (i := 4) sc_law_lines.nd rfl (.inl rfl)) (pss_one (ps_expr (pe_bm PySem.F.plainAttrs_list PySem.F.slot_list_append PySem.F.type_list_append mt_append (pv 3) (pa_cons (callD D_law_line (hr.mono (by decide)) (pa_cons (pv 0) (pa_cons (pv 1) (pa_cons (pv 3) pa_nil)))) pa_nil)))))
      (pss_one (ps_ret (pe_callTy call_tuple_ofN (by rfl) T.tuple (by decide +kernel) (pa_cons (pv 3) pa_nil)))))), ?_⟩
    refine ⟨Nat.zero_le _, fun L H4 n4 s4 g4 => ?_⟩
    have nL := D.nd n4
    refine ⟨_, rfl, n, rfl, by omega, by omega, for_range (n := n) (fun i σ H' => ∃ y4, σ = [some (.ref d), some (.int g), some (.int n), some (.ref L), y4] ∧ Step d l H H' ∧
        ∃ ws ls, H' L = some (.lst ws) ∧ AllAt (AtL K H') ws ls ∧ ls.length = i ∧ ∀ r ∈ ls, BdR 60000 r ∧ r.1 ≠ r.2) ?_ ?_ ?_⟩
    · exact ⟨_, rfl, Step.of D s4, [], [], g4, .nil, rfl, fun r hr => nomatch hr⟩
    · rintro i σ H5 hi ⟨y4, rfl, S5, ws, ls, eL, hall, hlen, hgood⟩
      refine ⟨.ref L, rfl, .inl ⟨rfl, _, .inl (.inl eL)⟩, .ref d, rfl, _, rfl, _, rfl, d, l, g, L, ws, ls, rfl, h0, h1, S5.deck, nL.1, nL.2, eL, hall, by omega, fun r hr => (hgood r hr).2, fun w H6 r S6 e6 g6 n6 => ?_⟩
      have eL6 := S6.at nL.1 nL.2 eL
      refine ⟨L, _, w, rfl, rfl, eL6, by rw [hall.length, hlen]; exact small1000 (by omega), ?_⟩
      refine ⟨_, rfl, (S5.trans S6).updN nL.1 nL.2 n4, ws ++ [w], ls ++ [r], upd_same, AllAt.app (hall.map fun _ _ z => AtL.upd (z.step S6 S5.deck) eL6) (.cons (AtL.upd e6 eL6) .nil), by rw [List.length_append, hlen]; rfl, fun r' hr => ?_⟩
      rcases List.mem_append.mp hr with z | z
      · exact hgood r' z
      · rw [List.mem_singleton.mp z]; exact ⟨g6, n6⟩
    · rintro σ H5 ⟨y4, rfl, S5, ws, ls, eL, hall, hlen, hgood⟩
      refine ⟨_, rfl, L, _, rfl, .inl (.inl eL), fun p6 H6 n6 s6 g6 => ?_⟩
      exact q _ _ ls (S5.trans (Step.of S5.deck s6)) ⟨p6, ws, rfl, .inl (.inl g6), hall.map fun _ _ z => z.same s6⟩ hlen hgood


end
end Cl

set_option maxHeartbeats 0
namespace Cl
open PySem PySem.Spec PyProof.Rows L2
open GxR (TabB TabG)

section
theorem cn_bd96 {g : Int} {ls : List Ln} {p : Pt} (hg : 0 < g) (good : ∀ r ∈ ls, GoodLn 960000 r) (h : Cn g ls p) : BdN 960001 p := by
  rcases h with ⟨l, hl, h⟩ | h
  · have := good l hl
    rcases h with rfl | rfl
    · exact crn_bd hg (by decide) this.1
    · exact crn_bd hg (by decide) this.2.1
  · obtain ⟨j, k, hj, hk, jk, x⟩ : ∃ j k, ∃ (hj : j < ls.length) (hk : k < ls.length), j < k ∧ Xc g p ls[j] ls[k] := Classical.byContradiction fun c => h (List.pairwise_iff_getElem.mpr fun j k hj hk jk x => c ⟨j, k, hj, hk, jk, x⟩)
    obtain ⟨n1, n2, s, e1, e2⟩ := x
    have g1 := good _ (List.getElem_mem hj)
    have g2 := good _ (List.getElem_mem hk)
    rw [← e2]
    exact cross_bd hg (by decide) ⟨g1.1, g1.2.1⟩ ⟨g2.1, g2.2.1⟩ (by rw [e1]; exact List.mem_cons_self)

end
/-- a case: a line, a path, whether it is drawn -/
abbrev Case := Ln × List Pt × Bool
def AtCase (K : PySem.W.Frag) (H : Hp) (v : V) (x : Case) : Prop := ∃ b u w, v = .ref b ∧ H b = some (.tup [u, w, .bl x.2.2]) ∧ AtL K H u x.1 ∧ AtP K H w x.2.1
structure OkCase (g : Int) (x : Case) : Prop where
  ln : GoodLn 960000 x.1
  ne : x.2.1 ≠ []
  len : x.2.1.length ≤ 100
  bd : ∀ c ∈ x.2.1, BdN 1000050 c
  met : x.2.2 = true → ∀ c ∈ x.2.1, Meets g x.1 c
section
variable {K : PySem.W.Frag} {H H' : Hp} {v : V} {x : Case}
theorem AtCase.step {d l : Addr} (h : AtCase K H v x) (S : Step d l H H') (D : Deck H d l) : AtCase K H' v x := by
  obtain ⟨b, u, w, e, h1, h2, h3⟩ := h
  obtain ⟨ns, s', c, k1, k2, _⟩ := D.ex
  exact ⟨b, u, w, e, S.at (ne_of h1 k1 (by intro z; cases z)) (ne_of h1 k2 (by intro z; cases z)) h1, h2.step S D, AtP.step h3 S D⟩
theorem AtCase.same (h : AtCase K H v x) (s : Same H H') : AtCase K H' v x := by
  obtain ⟨b, u, w, e, h1, h2, h3⟩ := h
  exact ⟨b, u, w, e, s _ _ h1, h2.same s, AtP.same h3 s⟩
theorem AtCase.sameX {P : Addr} {q : Str} (h : AtCase K H v x) (t : LT H P q) (s : SameX P H H') : AtCase K H' v x := by
  obtain ⟨b, u, w, e, h1, h2, h3⟩ := h
  refine ⟨b, u, w, e, s b _ (fun z => ?_) h1, AtL.sameX h2 t s, AtP.sameX h3 t s⟩
  obtain ⟨cs, e1, _⟩ := t
  rw [z, e1] at h1
  cases h1
theorem AtCase.upd {M : Addr} {ys : List V} {o : HO} (h : AtCase K H v x) (e : H M = some (.lst ys)) : AtCase K (L2.upd H M o) v x := by
  obtain ⟨b, u, w, e1, h1, h2, h3⟩ := h
  exact ⟨b, u, w, e1, tupU e h1, h2.upd e, AtP.upd h3 e⟩
theorem Deck.updX {d l p : Addr} {o : HO} (h : Deck H d l) (h1 : p ≠ d) (h2 : p ≠ l) : Deck (L2.upd H p o) d l := by
  obtain ⟨ns, s, c, e1, e2, e3⟩ := h.ex
  exact ⟨h.ne, ns, s, c, by rw [upd_ne h1.symm]; exact e1, by rw [upd_ne h2.symm]; exact e2, e3⟩
end
def spCases24 (K : PySem.W.Frag) (PI : Addr) : Sp := fun vs H Q _ => ∃ d l, vs = [.ref d] ∧ Deck H d l ∧ LT H PI qP ∧ ∀ (p L : Addr) H' g xs rows, L ≠ d ∧ L ≠ l → Deck H' d l → LT H' PI qP → 0 < g → g ≤ 1000 → H' p = some (.tup [.int g, .ref L]) → H' L = some (.lst xs) → AllAt (AtCase K H') xs rows → (∀ x ∈ rows, OkCase g x) → Q (.ref p) H'

section
variable {P : Program} {w : World} {K : PySem.W.Frag} {mg : Str → Option Value} {base : Heap}

theorem ok_law_cases {f PI : Addr} {fd : FuncData} (F : Fun K "_law_cases" "_law_cases" s_law_cases f fd) (T : Bt mg) (D_law_grain : Def P w K mg base 2 "_law_grain" ["_law_deck_here"] spGrainW) (D_law_draw : Def P w K mg base 1 "_law_draw" ["_law_deck_here", "_law_most"] spDraw) (D_law_lines : Def P w K mg base 4 "_law_lines" ["_law_deck_here", "_law_grain_here", "_law_many"] (spLines6 K)) (D_law_far_lines : Def P w K mg base 2 "_law_far_lines" ["_law_deck_here", "_law_grain_here", "_law_lines_here"] (spFarL24 K)) (D_law_corners : Def P w K mg base 3 "_law_corners" ["_law_grain_here", "_law_lines_here"] (spCornersL K)) (D_law_path : Def P w K mg base 6 "_law_path" ["_law_grain_here", "_law_line_here", "_law_corners_here"] (spPath24 K PI)) (D_law_any_path : Def P w K mg base 2 "_law_any_path" ["_law_deck_here", "_law_grain_here", "_law_line_here", "_law_lots"] (spAny24 K)) :
    FnG P w K mg base CX0 7 f fd ["_law_deck_here"] (spCases24 K PI) := by
  refine okG (k := 6) F sc_law_cases (fun vs H Q E h => ?_) (fun cdv A outer s H vs Q E hr h => ?_)
  · obtain ⟨d, l, rfl, _⟩ := h
    rfl
  · obtain ⟨d, l, rfl, D, tI, q⟩ := h
    refine ⟨_, (pss_cons (ps_set (i := 1) sc_law_cases.nd rfl (.inl rfl) (callD D_law_grain (hr.mono (by decide)) (pa_cons (pv 0) pa_nil)))
      (pss_cons (ps_set (i := 2) sc_law_cases.nd rfl (.inl rfl) (callD D_law_far_lines (hr.mono (by decide)) (pa_cons (pv 0) (pa_cons (pv 1) (pa_cons (callD D_law_lines (hr.mono (by decide)) (pa_cons (pv 0) (pa_cons (pv 1) (pa_cons (pe_op op_add pe_int (callD D_law_draw (hr.mono (by decide)) (pa_cons (pv 0) (pa_cons pe_int pa_nil)))) pa_nil)))) pa_nil)))))
      (pss_cons (ps_set (i := 3) sc_law_cases.nd rfl (.inl rfl) (callD D_law_corners (hr.mono (by decide)) (pa_cons (pv 1) (pa_cons (pv 2) pa_nil))))
      (pss_cons (ps_set (i := 4) sc_law_cases.nd rfl (.inl rfl) (lstN pa_nil))
      (pss_cons (ps_for PassesOwn.never rfl (pi_tup (pv 2)) (pg_name (i := 5) sc_law_cases.nd rfl (.inl rfl)) (pss_cons (ps_set (i := 6) sc_law_cases.nd rfl (.inl rfl) (pe_ix ix_list (lstN (pa_cons (pe_op op_add pe_int (callD D_law_draw (hr.mono (by decide)) (pa_cons (pv 0) (pa_cons pe_int pa_nil)))) (pa_cons pe_int pa_nil))) (pe_callTy call_int1 (by rfl) T.int (by decide +kernel) (pa_cons (pe_cmpR op_eq (callD D_law_draw (hr.mono (by decide)) (pa_cons (pv 0) (pa_cons pe_int pa_nil))) pe_int (nomark _)) pa_nil)) (fun _ _ => rfl)))
      (pss_cons (ps_expr (pe_bm PySem.F.plainAttrs_list PySem.F.slot_list_append PySem.F.type_list_append mt_append (pv 4) (pa_cons (tupN (pa_cons (pv 5) (pa_cons (callD D_law_path (hr.mono (by decide)) (pa_cons (pv 1) (pa_cons (pv 5) (pa_cons (pv 3) pa_nil)))) (pa_cons pe_bl pa_nil)))) pa_nil)))
      (pss_one (ps_expr (pe_bm PySem.F.plainAttrs_list PySem.F.slot_list_append PySem.F.type_list_append mt_append (pv 4) (pa_cons (tupN (pa_cons (pv 5) (pa_cons (callD D_law_any_path (hr.mono (by decide)) (pa_cons (pv 0) (pa_cons (pv 1) (pa_cons (pv 5) (pa_cons (pv 6) pa_nil))))) (pa_cons pe_bl pa_nil)))) pa_nil)))))))
      (pss_one (ps_ret (tupN (pa_cons (pv 1) (pa_cons (pv 4) pa_nil)))))))))), ?_⟩
    refine ⟨.ref d, rfl, d, l, rfl, D, fun gr H1 g0 g1 S1 => ?_⟩
    refine ⟨.ref d, rfl, _, rfl, .ref d, rfl, _, rfl, .ref d, rfl, d, l, 4, rfl, by decide, by decide, S1.deck, fun mn H2 m0 m1 S2 => ⟨_, _, rfl, rfl, ?_⟩⟩
    obtain ⟨n, en, n1, n4⟩ : ∃ n : Nat, ((fun i j => V.int (i + j)) 1 mn : V) = V.int (n : Nat) ∧ 1 ≤ n ∧ n ≤ 4 := ⟨(1 + mn).toNat, by show V.int (1 + mn) = _; congr 1; omega, by omega, by omega⟩
    rw [en]
    refine ⟨d, l, gr, n, rfl, g0, g1, by omega, by omega, S2.deck, fun w H3 ls0 S3 aT0 ll bd0 => ?_⟩
    refine ⟨d, l, gr, w, ls0, rfl, S3.deck, g0, g1, aT0, by omega, bd0, fun wl H4 ls S4 aT l4 good => ?_⟩
    have t4 : LT H4 PI qP := stepLT S3.deck S4 (stepLT S2.deck S3 (stepLT S1.deck S2 (stepLT D S1 tI)))
    have good2 : ∀ r ∈ ls, GoodLn 2000000 r := fun r hr => ⟨bdN_up24 (good r hr).1 (by decide), bdN_up24 (good r hr).2.1 (by decide), (good r hr).2.2⟩
    refine ⟨_, rfl, _, rfl, gr, wl, ls, rfl, ⟨⟨g0, g1⟩, aT, by omega, good2⟩, fun uc H5 cs s5 aC crs => ?_⟩
    have bC : ∀ c ∈ cs, BdN 960001 c := fun c hc => cn_bd96 g0 good ((crs.mem c).mp hc)
    have lC := crs_len (fun r hr => (good r hr).2.2) (by omega) crs
    have D5 := (Step.of S4.deck s5).deck
    have t5 := s5.lt t4
    obtain ⟨aL, vs, rfl, hS, hall⟩ := id aT
    have hS5 := seT s5 hS
    have hall5 : AllAt (AtL K H5) vs ls := hall.map fun _ _ z => z.same s5
    have lv := hall.length
    clear S1 S2 S3 S4 aT0 aT hS hall t4
    refine ⟨Nat.zero_le _, fun pF H6 n6 s6 e6 => ?_⟩
    have np := D5.nd n6
    refine ⟨_, rfl, aL, rfl, ⟨_, seT s6 hS5⟩, for_tup (K := K) (a := aL) (xs := vs) (fun i σ H' => ∃ y5 y6 xs rows, σ = [some (.ref d), some (.int gr), some (.ref aL), some uc, some (.ref pF), y5, y6] ∧ Deck H' d l ∧ LT H' PI qP ∧ SqT K H' aL vs ∧ AllAt (AtL K H') vs ls ∧ AtP K H' uc cs ∧ H' pF = some (.lst xs) ∧ AllAt (AtCase K H') xs rows ∧ xs.length ≤ 2 * i ∧ i ≤ 12 ∧ ∀ x ∈ rows, OkCase gr x) ?_ (fun i σ H' _ z => ?_) (fun i x σ H' hx z => ?_) (fun σ H' z => ?_)⟩
    · exact ⟨_, _, [], [], rfl, (Step.of D5 s6).deck, s6.lt t5, seT s6 hS5, hall5.map fun _ _ z => z.same s6, AtP.same aC s6, e6, .nil, Nat.le_refl _, by decide, fun _ z => nomatch z⟩
    · obtain ⟨_, _, _, _, _, _, _, k, _⟩ := z
      exact k
    · obtain ⟨y5, y6, xs, rows, rfl, D', t', k1, k2, k3, k4, k5, k6, i12, k7⟩ := z
      obtain ⟨r, hr_, hxr⟩ := k2.get hx
      have hi : i < vs.length := (List.getElem?_eq_some_iff.mp hx).1
      have mr := List.mem_of_getElem? hr_
      have gd := good r mr
      refine ⟨.ref d, rfl, d, l, 5, rfl, by decide, by decide, D', fun a Ha a0 a1 Sa => ⟨_, _, rfl, rfl, (by show 2 ≤ sizeLine; decide), fun p7 H7 n7 s7 e7 => ?_⟩⟩
      have D7 := (Step.of Sa.deck s7).deck
      refine ⟨.ref d, rfl, d, l, 16, rfl, by decide, by decide, D7, fun b Hb b0 b1 Sb => ⟨rfl, .inr ⟨_, rfl, ?_⟩⟩⟩
      obtain ⟨lo, hat, lo1, lo2⟩ : ∃ lo : Int, atI [V.int (1 + a), V.int 60] (if decide (V.int b = V.int 5) = true then 1 else 0) = some (.int lo) ∧ 1 ≤ lo ∧ lo ≤ 60 := by
        cases decide (V.int b = V.int 5) with
        | false => exact ⟨1 + a, rfl, by omega, by omega⟩
        | true => exact ⟨60, rfl, by decide, by decide⟩
      have np7 := Sa.deck.nd n7
      refine ⟨p7, _, _, _, rfl, rfl, .inl (.inl (Sb.at np7.1 np7.2 e7)), hat, ?_⟩
      have SB : Step d l H' Hb := (Sa.trans (Step.of Sa.deck s7)).trans Sb
      have DB := SB.deck
      have tB := stepLT D' SB t'
      have kB1 := stT SB D' k1
      have kB2 : AllAt (AtL K Hb) vs ls := k2.map fun _ _ z => z.step SB D'
      have kB3 := AtP.step k3 SB D'
      have kB4 := SB.at np.1 np.2 k4
      have kB5 : AllAt (AtCase K Hb) xs rows := k5.map fun _ _ z => z.step SB D'
      have hxB := hxr.step SB D'
      clear k1 k2 k3 k4 k5 hxr SB t' D' Sa Sb D7
      have bR : BdR 1100000 r := ⟨bdN_up24 gd.1 (by decide), bdN_up24 gd.2.1 (by decide)⟩
      refine ⟨_, rfl, .inl ⟨rfl, _, .inl (.inl kB4)⟩, _, rfl, _, rfl, _, rfl, _, rfl, gr, x, uc, r, cs, rfl, ⟨g0, g1⟩, hxB, kB3, bR, fun c hc => bdN_up24 (bC c hc) (by decide), crs.nd, by omega, tB, fun wp ps H8 sx lt ap isP => ⟨(by show 3 ≤ sizeLine; decide), fun p8 H9 n9 s9 e9 => ?_⟩⟩
      have sx9 := sx.trans s9.x
      have lt9 := s9.lt lt
      have D9 := deckX DB tB sx9
      have k91 := sXT tB sx9 kB1
      have k92 : AllAt (AtL K H9) vs ls := kB2.map fun _ _ z => AtL.sameX z tB sx9
      have k93 := AtP.sameX kB3 tB sx9
      have k94 := lstX tB sx9 kB4
      have k95 : AllAt (AtCase K H9) xs rows := kB5.map fun _ _ z => z.sameX tB sx9
      have hx9 := AtL.sameX hxB tB sx9
      have ap9 := AtP.same ap s9
      have lx := k95.length
      refine ⟨pF, xs, _, rfl, rfl, k94, by rw [sizeLine_eq]; omega, ?_⟩
      have mem1 : crn gr r.1 ∈ ps := (isP.mem _).mpr ⟨(crs.mem _).mpr (.inl ⟨r, mr, .inl rfl⟩), ⟨0, 1, by decide, by decide, by decide, met_first g0⟩⟩
      have ok1 : OkCase gr (r, ps, true) := ⟨gd, (fun z => by rw [show ps = [] from z] at mem1; cases mem1), Nat.le_trans (nodup_len ps cs isP.nd fun c hc => ((isP.mem c).mp hc).1) (by omega), fun c hc => bdN_up24 (bC c ((isP.mem c).mp hc).1) (by decide), fun _ c hc => ((isP.mem c).mp hc).2⟩
      have case1 : AtCase K H9 (.ref p8) (r, ps, true) := ⟨p8, x, wp, rfl, e9, hx9, ap9⟩
      obtain ⟨HU, eU⟩ : ∃ HU, HU = L2.upd H9 pF (.lst (xs ++ [.ref p8])) := ⟨_, rfl⟩
      have DU : Deck HU d l := by rw [eU]; exact D9.updX np.1 np.2
      have tU : LT HU PI qP := by rw [eU]; exact ltU lt9 k94
      have kU1 : SqT K HU aL vs := by rw [eU]; exact updT k94 k91
      have kU2 : AllAt (AtL K HU) vs ls := by rw [eU]; exact k92.map fun _ _ z => AtL.upd z k94
      have kU3 : AtP K HU uc cs := by rw [eU]; exact AtP.upd k93 k94
      have kU4 : HU pF = some (.lst (xs ++ [.ref p8])) := by rw [eU]; exact upd_same
      have kU5 : AllAt (AtCase K HU) (xs ++ [.ref p8]) (rows ++ [(r, ps, true)]) := by rw [eU]; exact (k95.map fun _ _ z => z.upd k94).app (.cons (case1.upd k94) .nil)
      have hxU : AtL K HU x r := by rw [eU]; exact AtL.upd hx9 k94
      rw [← eU]
      clear eU k91 k92 k93 k94 k95 hx9 ap9 D9 lt9 sx9 case1 kB1 kB2 kB3 kB4 kB5 hxB DB tB sx lt ap
      refine ⟨_, rfl, .inl ⟨rfl, _, .inl (.inl kU4)⟩, _, rfl, _, rfl, _, rfl, _, rfl, _, rfl, d, l, gr, lo, x, r, rfl, DU, g0, g1, hxU, ⟨bdN_up24 gd.1 (by decide), bdN_up24 gd.2.1 (by decide)⟩, lo1, lo2, fun w2 HV ps2 SV ap2 ne2 l2 b2 => ⟨(by show 3 ≤ sizeLine; decide), fun pW HW nW sW eW => ?_⟩⟩
      have SW : Step d l HU HW := SV.trans (Step.of SV.deck sW)
      have kW4 := SW.at np.1 np.2 kU4
      have ok2 : OkCase gr (r, ps2, false) := ⟨gd, ne2, by show ps2.length ≤ 100; omega, b2, fun z => nomatch z⟩
      refine ⟨pF, _, _, rfl, rfl, kW4, by rw [List.length_append, sizeLine_eq]; show xs.length + 1 < _; omega, ?_⟩
      refine ⟨_, _, _, (rows ++ [(r, ps, true)]) ++ [(r, ps2, false)], rfl, SW.deck.updX np.1 np.2, ltU (stepLT DU SW tU) kW4, updT kW4 (stT SW DU kU1), kU2.map fun _ _ z => AtL.upd (z.step SW DU) kW4, AtP.upd (AtP.step kU3 SW DU) kW4, upd_same, (kU5.map fun _ _ z => (z.step SW DU).upd kW4).app (.cons (AtCase.upd ⟨pW, x, w2, rfl, eW, hxU.step SW DU, AtP.same ap2 sW⟩ kW4) .nil), ?_, by omega, fun y hy => ?_⟩
      · rw [List.length_append, List.length_append]
        show xs.length + 1 + 1 ≤ 2 * (i + 1)
        omega
      · rcases List.mem_append.mp hy with hy | hy
        · rcases List.mem_append.mp hy with hy | hy
          · exact k7 y hy
          · rw [List.mem_singleton.mp hy]; exact ok1
        · rw [List.mem_singleton.mp hy]; exact ok2
    · obtain ⟨y5, y6, xs, rows, rfl, D', t', k1, k2, k3, k4, k5, k6, i12, k7⟩ := z
      exact ⟨_, rfl, _, rfl, (by show 2 ≤ sizeLine; decide), fun p9 H9 n9 s9 e9 => q p9 pF H9 gr xs rows np (Step.of D' s9).deck (s9.lt t') g0 g1 e9 (s9 _ _ k4) (k5.map fun _ _ z => z.same s9) k7⟩

end
end Cl

set_option maxHeartbeats 0
namespace Cl
open PySem PySem.Spec PyProof.Rows L2
open GxR (TabB TabG)

theorem AllAt.rev27 {α : Type} {R : V → α → Prop} : ∀ {vs : List V} {xs : List α}, AllAt R vs xs → AllAt R vs.reverse xs.reverse
  | _, _, .nil => .nil
  | _, _, .cons h t => by
    rw [List.reverse_cons, List.reverse_cons]
    exact (AllAt.rev27 t).app (.cons h .nil)
theorem AllAt.dropT {α : Type} {R : V → α → Prop} : ∀ {vs : List V} {xs : List α} (i : Nat), AllAt R vs xs → AllAt R (vs.drop i) (xs.drop i)
  | _, _, 0, h => by rw [List.drop_zero, List.drop_zero]; exact h
  | _, _, _ + 1, .nil => by simp; exact .nil
  | _, _, i + 1, .cons _ t => by rw [List.drop_succ_cons, List.drop_succ_cons]; exact AllAt.dropT i t
theorem AllAt.takeT {α : Type} {R : V → α → Prop} : ∀ {vs : List V} {xs : List α} (i : Nat), AllAt R vs xs → AllAt R (vs.take i) (xs.take i)
  | _, _, 0, _ => by rw [List.take_zero, List.take_zero]; exact .nil
  | _, _, _ + 1, .nil => by simp; exact .nil
  | _, _, i + 1, .cons a t => by rw [List.take_succ_cons, List.take_succ_cons]; exact .cons a (AllAt.takeT i t)
theorem AllAt.cut {α : Type} {R : V → α → Prop} {vs : List V} {xs : List α} (lo hi : Option Int) (h : AllAt R vs xs) : ∃ ys, AllAt R (cutV vs lo hi) ys ∧ ys.length ≤ xs.length ∧ ∀ y ∈ ys, y ∈ xs :=
  ⟨_, (h.dropT _).takeT _, by rw [List.length_take, List.length_drop]; omega, fun y hy => List.mem_of_mem_drop (List.mem_of_mem_take hy)⟩
theorem low_bd {z : Pt} (z0 : 0 < z.2) (n0 : 0 ≤ z.1) : 0 ≤ (lowN z.1 z.2).1 ∧ (lowN z.1 z.2).1 ≤ z.1 ∧ 0 < (lowN z.1 z.2).2 ∧ (lowN z.1 z.2).2 ≤ z.2 := by
  obtain ⟨h1, h2, h3⟩ := low_rat (n := z.1) z0
  refine ⟨canR z0 (by rw [Int.zero_mul, h2]; exact Int.mul_nonneg n0 (Int.le_of_lt h1)), canR z0 (by rw [h2]; exact mulL h3 n0), h1, h3⟩
theorem low_le {z w : Pt} (z0 : 0 < z.2) (w0 : 0 < w.2) (h : z.1 * w.2 ≤ w.1 * z.2) : (lowN z.1 z.2).1 * (lowN w.1 w.2).2 ≤ (lowN w.1 w.2).1 * (lowN z.1 z.2).2 := by
  obtain ⟨h1, h2, _⟩ := low_rat (n := z.1) z0
  obtain ⟨k1, k2, _⟩ := low_rat (n := w.1) w0
  exact le_tr (b := w) w0 h1 k1 (le_tr (b := z) z0 h1 w0 (Int.le_of_eq h2) h) (Int.le_of_eq k2.symm)
theorem hoc_far {g : Int} {r : Ln} {c : Pt} {k m : Int} (h : HOc g r c k m) : 2 * farN g r c k m ≤ m * g := by
  obtain ⟨⟨a1, a2⟩, b1, b2⟩ := h
  have e : ∀ start step num : Int, (2 * num - 1) * g * m ≤ 2 * (start * m + step * k) → 2 * (start * m + step * k) < (2 * num + 1) * g * m → -(m * g) ≤ 2 * (m * (start - num * g) + k * step) ∧ 2 * (m * (start - num * g) + k * step) ≤ m * g := fun start step num h1 h2 => by
    have e1 : (2 * num - 1) * g * m = 2 * (num * g * m) - m * g := by grind
    have e2 : (2 * num + 1) * g * m = 2 * (num * g * m) + m * g := by grind
    have e3 : 2 * (m * (start - num * g) + k * step) = 2 * (start * m + step * k) - 2 * (num * g * m) := by grind
    omega
  have ex := e _ _ _ a1 a2
  have ey := e _ _ _ b1 b2
  unfold farN mxI abI xg dlt
  simp only
  split <;> split <;> split <;> omega
theorem mv_eq (g : Int) (r : Ln) : mvL g (0 - g) r = ((r.1.1 + g * 1, r.1.2 + g * (-1)), (r.2.1 + g * 1, r.2.2 + g * (-1))) := by
  unfold mvL
  rw [Int.mul_one, Int.mul_neg, Int.mul_one, Int.zero_sub]
def spLaw24 (K : PySem.W.Frag) (PI : Addr) : Sp := fun vs H Q _ => ∃ (a : Addr) (ns : List Int), vs = [.ref a] ∧ SqL K H a (ns.map V.int) ∧ ns.length ≤ 63 ∧ LT H PI qP ∧ ∀ H', LT H' PI qP → Q (.bl true) H'

section
variable {P : Program} {w : World} {K : PySem.W.Frag} {mg : Str → Option Value} {base : Heap}

theorem oklaw {f PI : Addr} {fd : FuncData} (F : Fun K "law" "law" slaw f fd) (T : Bt mg) (D_law_deck : Def P w K mg base 1 "_law_deck" ["_law_script"] (spDeck K)) (D_law_draw : Def P w K mg base 1 "_law_draw" ["_law_deck_here", "_law_most"] spDraw) (D_law_cases : Def P w K mg base 7 "_law_cases" ["_law_deck_here"] (spCases24 K PI)) (D_law_off : Def P w K mg base 2 "_law_off" ["_law_grain_here", "_law_line_here", "_law_path_here"] (spOff24 K)) (D_law_told : Def P w K mg base 6 "_law_told" ["_law_grain_here", "_law_line_here", "_law_path_here", "_law_due"] (spTold24 K)) (D_law_moved : Def P w K mg base 1 "_law_moved" ["_law_lines_here", "_law_dx", "_law_dy"] (spMovedL24 K)) (Doff_of : Def P w K mg base 5 "off_of" ["grain", "line", "path"] (spOffOf K)) :
    FnG P w K mg base CX0 8 f fd ["_law_script"] (spLaw24 K PI) := by
  refine okG (k := 7) F sclaw (fun vs H Q E h => ?_) (fun cdv A outer s H vs Q E hr h => ?_)
  · obtain ⟨a, ns, rfl, _⟩ := h
    rfl
  · obtain ⟨a, ns, rfl, hS, hlen, tI, q⟩ := h
    refine ⟨_, (pss_cons (ps_set (i := 1) sclaw.nd rfl (.inl rfl) (callD D_law_deck (hr.mono (by decide)) (pa_cons (pv 0) pa_nil)))
      (pss_cons (ps_asg (callD D_law_cases (hr.mono (by decide)) (pa_cons (pv 1) pa_nil)) (pg_tup (by rfl) (pgs_cons (pg_name (i := 2) sclaw.nd rfl (.inl rfl)) (pgs_cons (pg_name (i := 3) sclaw.nd rfl (.inl rfl)) pgs_nil))))
      (pss_cons (ps_for PassesOwn.never rfl (pi_list (pv 3)) (pg_tup (by rfl) (pgs_cons (pg_name (i := 4) sclaw.nd rfl (.inl rfl)) (pgs_cons (pg_name (i := 5) sclaw.nd rfl (.inl rfl)) (pgs_cons (pg_name (i := 6) sclaw.nd rfl (.inl rfl)) pgs_nil)))) (pss_cons (ps_set (i := 7) sclaw.nd rfl (.inl rfl) (callD D_law_off (hr.mono (by decide)) (pa_cons (pv 2) (pa_cons (pv 4) (pa_cons (pv 5) pa_nil)))))
      (pss_cons (ps_if (PW.pt (pw_or (pt_not (pt_val (callD D_law_told (hr.mono (by decide)) (pa_cons (pv 2) (pa_cons (pv 4) (pa_cons (pv 5) (pa_cons (pv 7) pa_nil))))))) (pw_or1 (pt_not (pt_val (callD D_law_told (hr.mono (by decide)) (pa_cons (pv 2) (pa_cons (pv 4) (pa_cons (pe_revT (pv 5)) (pa_cons (pv 7) pa_nil)))))))))) (pss_one (ps_ret pe_bl)) pss_nil)
      (cutS (ps_if (PW.pt (pw_and (pt_val (pv 6)) (pw_and1 (pt_cmpR op_gt (pe_op op_mul pe_int (pe_ix ix_tup (pv 7) pe_int (fun _ _ => rfl))) (pe_ix ix_tup (pv 7) pe_int (fun _ _ => rfl)) (nomark _))))) (pss_one (ps_ret pe_bl)) pss_nil)
      (pss_cons (ps_if (pt_not (pt_val (callD D_law_told (hr.mono (by decide)) (pa_cons (pv 2) (pa_cons (pe_revT (pv 4)) (pa_cons (pv 5) (pa_cons (pv 7) pa_nil))))))) (pss_one (ps_ret pe_bl)) pss_nil)
      (pss_cons (ps_set (i := 8) sclaw.nd rfl (.inl rfl) (pe_callTy call_tuple_ofN (by rfl) T.tuple (by decide +kernel) (pa_cons (pe_lc (own := [("_law_i", 9), ("_law_j", 10)]) (g := gTup K 2 (gCons (gName 9) (gCons (gName 10) gNil))) (tt := tYes) (by rfl) sclaw.nd (pi_tup (pv 5)) (blkOk_by (own := [("_law_i", 9), ("_law_j", 10)]) (N := ["_law_script", "_law_deck_here", "_law_grain_here", "_law_cases_here", "_law_line_here", "_law_path_here", "_law_is_drawn", "_law_due", "_law_on", "_law_i", "_law_j", "_law_part", "_law_n", "_law_d"]) (sc := defScope slaw) (by decide +kernel)) (fun _ _ _ _ _ => (pg_tup (by rfl) (pgs_cons (pg_name (i := 9) sclaw.nd rfl (.inl rfl)) (pgs_cons (pg_name (i := 10) sclaw.nd rfl (.inl rfl)) pgs_nil)))) (fun _ _ _ _ _ => pts_nil) (fun _ _ _ _ _ => (tupN (pa_cons (pe_op op_add (pv 9) pe_int) (pa_cons (pe_op op_sub (pv 10) pe_int) pa_nil))))) pa_nil)))
      (pss_cons (ps_if (pt_not (pt_val (callD D_law_told (hr.mono (by decide)) (pa_cons (pv 2) (pa_cons (pe_ix ix_tup (callD D_law_moved (hr.mono (by decide)) (pa_cons (lstN (pa_cons (pv 4) pa_nil)) (pa_cons (pv 2) (pa_cons (pe_op op_sub pe_int (pv 2)) pa_nil)))) pe_int (fun _ _ => rfl)) (pa_cons (pv 8) (pa_cons (pv 7) pa_nil))))))) (pss_one (ps_ret pe_bl)) pss_nil)
      (cutS (ps_set (i := 11) sclaw.nd rfl (.inl rfl) (pe_slice sl_tupA (pv 5) po_none (po_some (pe_op op_add pe_int (callD D_law_draw (hr.mono (by decide)) (pa_cons (pv 1) (pa_cons (pe_callB call_len_seq (by rfl) T.len (by decide +kernel) (pa_cons (pv 5) pa_nil)) pa_nil)))))))
      (pss_cons (ps_asg (callD Doff_of (hr.mono (by decide)) (pa_cons (pv 2) (pa_cons (pv 4) (pa_cons (pv 11) pa_nil)))) (pg_tup (by rfl) (pgs_cons (pg_name (i := 12) sclaw.nd rfl (.inl rfl)) (pgs_cons (pg_name (i := 13) sclaw.nd rfl (.inl rfl)) pgs_nil))))
      (pss_one (ps_if (PW.pt (pw_or (pt_cmpR op_gt (pe_op op_mul (pv 12) (pe_ix ix_tup (pv 7) pe_int (fun _ _ => rfl))) (pe_op op_mul (pe_ix ix_tup (pv 7) pe_int (fun _ _ => rfl)) (pv 13)) (nomark _)) (pw_or1 (pt_not (pt_val (callD D_law_told (hr.mono (by decide)) (pa_cons (pv 2) (pa_cons (pv 4) (pa_cons (pv 5) (pa_cons (pv 7) pa_nil)))))))))) (pss_one (ps_ret pe_bl)) pss_nil)))))))))))
      (pss_one (ps_ret pe_bl))))), ?_⟩
    refine ⟨.ref a, rfl, a, ns, rfl, hS, hlen, fun d l H1 s1 D1 => ?_⟩
    refine ⟨.ref d, rfl, d, l, rfl, D1, s1.lt tI, fun pC L H2 g xs rows nL D2 t2 g0 g1 e2 eL2 all2 oks => ?_⟩
    refine ⟨pC, _, rfl, .inl (.inl e2), rfl, _, _, rfl, _, _, rfl, rfl, ?_⟩
    refine ⟨_, rfl, L, rfl, ⟨_, .inl (.inl eL2)⟩, for_list (K := K) (a := L) (xs := xs) (fun i σ H' => ∃ y4 y5 y6 y7 y8 y9 y10 y11 y12 y13, σ = [some (.ref a), some (.ref d), some (.int g), some (.ref L), y4, y5, y6, y7, y8, y9, y10, y11, y12, y13] ∧ Deck H' d l ∧ LT H' PI qP ∧ H' L = some (.lst xs) ∧ AllAt (AtCase K H') xs rows) ?_ (fun i σ H' _ z => ?_) (fun i x σ H' hx z => ?_) (fun σ H' z => ?_)⟩
    · exact ⟨_, _, _, _, _, _, _, _, _, _, rfl, D2, t2, eL2, all2⟩
    · obtain ⟨_, _, _, _, _, _, _, _, _, _, _, _, _, k, _⟩ := z
      exact .inl (.inl k)
    · obtain ⟨y4, y5, y6, y7, y8, y9, y10, y11, y12, y13, rfl, D', t', eL, all⟩ := z
      obtain ⟨⟨r, ps, b⟩, hrow, bb, u, w, rfl, hbb, hu, hw⟩ := all.get hx
      have ok := oks _ (List.mem_of_getElem? hrow)
      refine ⟨bb, _, rfl, .inl (.inl hbb), rfl, _, _, rfl, _, _, rfl, _, _, rfl, rfl, ?_⟩
      have hu : AtL K H' u r := hu
      obtain ⟨aL, x1, x2, rfl, hSL, hx1, hx2⟩ := id hu
      have hw : AtP K H' w ps := hw
      have bW : ∀ c ∈ ps, BdW g r c := fun c hc => ⟨g0, g1, bdN_up24 ok.ln.1 (by decide), bdN_up24 ok.ln.2.1 (by decide), bdN_up24 (ok.bd c hc) (by decide)⟩
      refine ⟨_, rfl, _, rfl, _, rfl, g, .ref aL, w, r, ps, rfl, hu, hw, ⟨g0, bW⟩, fun wd H1 z s1 hO hB e1 => ?_⟩
      obtain ⟨p, ep⟩ : ∃ p, p = lowN z.1 z.2 := ⟨_, rfl⟩
      have pb := low_bd hO.pos hO.nn
      have hB' := hB
      obtain ⟨B1, B2, B3, B4⟩ := hB'
      rw [← ep] at e1 pb
      have okp : okI p.1 ∧ okI p.2 := ⟨okI.of (by omega) (by omega), okI.of (by omega) (by omega)⟩
      have same : ∀ {g' : Int} {r' : Ln} {qs : List Pt}, Off g' r' qs z → ∀ z', Off g' r' qs z' → lowN z'.1 z'.2 = p := fun h z' h' => by
        rw [ep]
        exact low_eq h'.pos h.pos (h'.one h fun _ => Iff.rfl)
      -- told
      refine ⟨_, rfl, _, rfl, _, rfl, _, rfl, g, .ref aL, w, wd, r, ps, p, rfl, hu.same s1, AtP.same hw s1, ⟨g0, bW⟩, e1, okp, same hO, fun H2 s2 => ⟨_, rfl, iteF ?_⟩⟩
      have s12 := s1.trans s2
      obtain ⟨aP, vP, rfl, hSP, hallP⟩ := id hw
      refine ⟨_, rfl, _, rfl, _, rfl, aP, vP, rfl, seT s12 hSP, fun pR H3 n3 s3 e3 => ?_⟩
      have s13 := s12.trans s3
      refine ⟨_, rfl, g, .ref aL, .ref pR, wd, r, ps.reverse, p, rfl, hu.same s13, ⟨pR, _, rfl, .inl (.inl e3), (hallP.map fun _ _ z => z.same s13).rev27⟩, ⟨g0, fun c hc => bW c (List.mem_reverse.mp hc)⟩, e1.same (s2.trans s3), okp, fun z' h' => ?_, fun H4 s4 => ⟨_, rfl, iteF ?_⟩⟩
      · rw [ep]
        exact low_eq h'.pos hO.pos (h'.one hO fun c => List.mem_reverse)
      have s14 := s13.trans s4
      have e4 := e1.same ((s2.trans s3).trans s4)
      obtain ⟨ad, rfl, hd⟩ := id e4
      -- a drawn one lies near
      have half : b = true → 2 * p.1 ≤ p.2 := fun hb => by
        have h1 := hO.half g0 fun c hc => by
          obtain ⟨k, m, m0, k0, k1, h⟩ := ok.met hb c hc
          exact ⟨k, m, k0, k1, m0, hoc_far h⟩
        obtain ⟨h2, h3, _⟩ := low_rat (n := z.1) hO.pos
        rw [← ep] at h2 h3
        refine canR hO.pos ?_
        have h4 := mulR h1 (Int.le_of_lt h2)
        have e5 : 2 * p.1 * z.2 = 2 * (z.1 * p.2) := by rw [← h3]; grind
        have e6 : 2 * z.1 * p.2 = 2 * (z.1 * p.2) := by grind
        have e7 : p.2 * z.2 = z.2 * p.2 := Int.mul_comm _ _
        omega
      refine ⟨fun σ' H'' => σ' = [some (.ref a), some (.ref d), some (.int g), some (.ref L), some (.ref aL), some (.ref aP), some (.bl b), some (.ref ad), y8, y9, y10, y11, y12, y13] ∧ H'' = H4, ?_, ?_⟩
      · refine ⟨_, rfl, b, rfl, ?_⟩
        cases b with
        | false => exact iteF (iteF ⟨rfl, rfl⟩)
        | true =>
          have hf := half rfl
          refine iteT ⟨_, rfl, ad, _, 0, _, rfl, rfl, hd, rfl, _, _, rfl, rfl, .inl (by decide), _, rfl, ad, _, 1, _, rfl, rfl, hd, rfl, _, _, rfl, rfl, _, rfl, ite2 (fun e => ?_) (fun _ => ⟨rfl, rfl⟩)⟩
          have e : p.2 < 2 * p.1 := of_decide_eq_true e
          omega
      rintro σ' H'' ⟨rfl, rfl⟩
      clear half
      -- the line from behind
      refine ⟨_, rfl, _, rfl, aL, _, rfl, seT s14 hSL, fun pL H5 n5 s5 e5 => ?_⟩
      have s15 := s14.trans s5
      refine ⟨_, rfl, _, rfl, g, .ref pL, .ref aP, .ref ad, (r.2, r.1), ps, p, rfl, ⟨pL, _, _, rfl, .inl (.inl e5), hx2.same s15, hx1.same s15⟩, AtP.same hw s15, ⟨g0, fun c hc => ⟨g0, g1, (bW c hc).2.2.2.1, (bW c hc).2.2.1, (bW c hc).2.2.2.2⟩⟩, e4.same s5, okp, same hO.swap, fun H6 s6 => ⟨_, rfl, iteF ?_⟩⟩
      have s16 := s15.trans s6
      -- moved
      refine ⟨_, rfl, aP, rfl, ⟨vP, seT s16 hSP⟩, fun pD nD => ?_⟩
      refine lcT (K := K) (a := aP) (xs := vP) (fun i H'' => Same H6 H'' ∧ ∃ ws, H'' pD = some (.lst ws) ∧ AllAt (At2 K H'') ws ((ps.take i).map fun c => (c.1 + 1, c.2 - 1))) nD (fun H'' e1 e2 => ⟨e1, [], e2, .nil⟩) (fun i H'' _ z => seT (s16.trans z.1) hSP) (fun i x H'' hx z => ?_) (fun H7 z => ?_)
      · obtain ⟨t1, ws, k1, k2⟩ := z
        obtain ⟨c, hc, hxc⟩ := hallP.get hx
        obtain ⟨bq, rfl, hbq⟩ := hxc.same (s16.trans t1)
        refine ⟨bq, _, rfl, hbq, rfl, _, _, rfl, _, _, rfl, rfl, ?_⟩
        refine ⟨rfl, _, rfl, _, _, rfl, rfl, _, rfl, _, _, rfl, rfl, (by show 2 ≤ sizeLine; decide), fun pq H8 n8 s8 e8 => ?_⟩
        have k3 := s8 _ _ k1
        refine ⟨ws, k3, ?_, (t1.trans s8).upN nD, ws ++ [.ref pq], upd_same, ?_⟩
        · rw [k2.length, List.length_map, List.length_take, sizeLine_eq]
          have h1 : ps.length ≤ 100 := ok.len
          omega
        · rw [List.take_add_one, hc, Option.toList_some, List.map_append]
          exact (k2.map fun _ _ z => At2U (z.same s8) k3).app (.cons (At2U ⟨pq, rfl, .inl (.inl e8)⟩ k3) .nil)
      obtain ⟨t7, ws, k7, a7⟩ := z
      rw [hallP.length, List.take_length] at a7
      refine ⟨pD, ws, rfl, .inl (.inl k7), fun pO H8 n8 s8 e8 => ?_⟩
      have s18 := (s16.trans t7).trans s8
      have aO : AtP K H8 (.ref pO) (ps.map fun c => (c.1 + 1, c.2 - 1)) := ⟨pO, ws, rfl, .inl (.inl e8), a7.map fun _ _ z => z.same s8⟩
      refine ⟨_, rfl, _, rfl, (by show 1 ≤ sizeLine; decide), fun pN H9 n9 s9 e9 => ?_⟩
      refine ⟨_, rfl, _, rfl, _, _, rfl, rfl, pN, [.ref aL], [r], g, 0 - g, rfl, .inl (.inl e9), .cons (hu.same (s18.trans s9)) .nil, (by show 1 ≤ 900; decide), fun wM HA sA aM => ?_⟩
      obtain ⟨aMM, vM, rfl, hSM, hallM⟩ := aM
      obtain ⟨um, rfl, hum⟩ := AllAt.one (show AllAt (AtL K HA) vM [mvL g (0 - g) r] from hallM)
      have s1A := (s18.trans s9).trans sA
      have e4A := e4.same (((((s5.trans s6).trans t7).trans s8).trans s9).trans sA)
      have bM : ∀ c ∈ ps.map (fun c => (c.1 + 1, c.2 - 1)), BdW g (mvL g (0 - g) r) c := fun c hc => by
        obtain ⟨c0, h0, rfl⟩ := List.mem_map.mp hc
        obtain ⟨⟨⟨a1, a2⟩, a3, a4⟩, ⟨⟨a5, a6⟩, a7, a8⟩, _⟩ := ok.ln
        obtain ⟨⟨c1, c2⟩, c3, c4⟩ := ok.bd c0 h0
        simp only at a1 a2 a3 a4 a5 a6 a7 a8 c1 c2 c3 c4
        refine ⟨g0, g1, ⟨⟨by show _ ≤ r.1.1 + g; omega, by show r.1.1 + g ≤ _; omega⟩, by show _ ≤ r.1.2 + (0 - g); omega, by show r.1.2 + (0 - g) ≤ _; omega⟩, ⟨⟨by show _ ≤ r.2.1 + g; omega, by show r.2.1 + g ≤ _; omega⟩, by show _ ≤ r.2.2 + (0 - g); omega, by show r.2.2 + (0 - g) ≤ _; omega⟩, ⟨by show _ ≤ c0.1 + 1; omega, by show c0.1 + 1 ≤ _; omega⟩, by show _ ≤ c0.2 - 1; omega, by show c0.2 - 1 ≤ _; omega⟩
      refine ⟨aMM, _, 0, um, rfl, rfl, hSM, rfl, _, rfl, _, rfl, g, um, .ref pO, .ref ad, mvL g (0 - g) r, ps.map (fun c => (c.1 + 1, c.2 - 1)), p, rfl, hum, AtP.same aO (s9.trans sA), ⟨g0, bM⟩, e4A, okp, same (by rw [mv_eq]; exact hO.move 1 (-1)), fun HB sB => ⟨_, rfl, iteF ?_⟩⟩
      have s1B := s1A.trans sB
      have e4B := e4A.same sB
      have SB : Step d l H' HB := Step.of D' s1B
      have tB := s1B.lt t'
      -- a part of the path
      refine ⟨fun σ' H'' => ∃ y8 y9 y10 wq qs, σ' = [some (.ref a), some (.ref d), some (.int g), some (.ref L), some (.ref aL), some (.ref aP), some (.bl b), some (.ref ad), y8, y9, y10, some wq, y12, y13] ∧ Step d l HB H'' ∧ AtP K H'' wq qs ∧ ∀ c ∈ qs, c ∈ ps, ?_, ?_⟩
      · have lP := hallP.length
        have l0 : 0 < ps.length := List.length_pos_iff.mpr ok.ne
        have l1 : ps.length ≤ 100 := ok.len
        refine ⟨_, rfl, .ref d, rfl, _, rfl, aP, vP, rfl, .inr (seT s1B hSP), d, l, (vP.length : Nat), rfl, by omega, by omega, SB.deck, fun x HC x0 x1 SC => ⟨_, _, rfl, rfl, _, rfl, aP, vP, rfl, stT SC SB.deck (seT s1B hSP), fun _ => ?_, fun _ pp npp => ?_⟩⟩
        · exact ⟨_, _, _, _, ps, rfl, SC, AtP.step (AtP.same hw s1B) SC SB.deck, fun _ h => h⟩
        · obtain ⟨qs, hq1, _, hq2⟩ := AllAt.cut none (some (1 + x)) (hallP.map fun _ _ z => (z.same s1B).step SC SB.deck)
          have sN : Same HC (L2.upd HC pp (.tup (cutV vP none (some (1 + x))))) := same_new npp
          exact ⟨_, _, _, _, qs, rfl, SC.trans (Step.of SC.deck sN), ⟨pp, _, rfl, .inl (.inl upd_same), hq1.map fun _ _ z => z.same sN⟩, hq2⟩
      rintro σ' HD ⟨y8', y9', y10', wq, qs, rfl, SD, aQ, sub⟩
      have SHD : Step d l H' HD := SB.trans SD
      refine ⟨_, rfl, _, rfl, _, rfl, g, .ref aL, wq, r, qs, rfl, hu.step SHD D', aQ, ⟨g0, fun c hc => bW c (sub c hc)⟩, fun wf HE z2 sE hO2 hB2 eE => ?_⟩
      obtain ⟨bf, rfl, hbf⟩ := eE
      refine ⟨bf, _, rfl, hbf, rfl, _, _, rfl, _, _, rfl, rfl, ?_⟩
      have pb2 := low_bd hO2.pos hO2.nn
      obtain ⟨C1, C2, C3, C4⟩ := hB2
      have cmp := low_le hO2.pos hO.pos (hO2.le hO sub)
      rw [← ep] at cmp
      have e4E := (e4B.step SD SB.deck).same sE
      obtain ⟨ad', ead, hd'⟩ := id e4E
      obtain rfl : ad = ad' := V.ref.inj ead
      refine ⟨_, rfl, _, rfl, ad, _, 1, _, rfl, rfl, hd', rfl, _, _, rfl, rfl, .inl (by omega), _, rfl, ad, _, 0, _, rfl, rfl, hd', rfl, _, rfl, _, _, rfl, rfl, .inl (by omega), _, _, rfl, rfl, _, rfl, ite2 (fun e => ?_) (fun _ => ?_)⟩
      · have e : p.1 * (lowN z2.1 z2.2).2 < (lowN z2.1 z2.2).1 * p.2 := of_decide_eq_true e
        omega
      have SHE : Step d l H' HE := SHD.trans (Step.of SHD.deck sE)
      refine ⟨_, rfl, _, rfl, _, rfl, _, rfl, g, .ref aL, .ref aP, .ref ad, r, ps, p, rfl, hu.step SHE D', AtP.step hw SHE D', ⟨g0, bW⟩, e4E, okp, same hO, fun HF sF => ⟨_, rfl, iteF ?_⟩⟩
      have SHF := SHE.trans (Step.of SHE.deck sF)
      refine ⟨_, _, _, _, _, _, _, _, _, _, rfl, SHF.deck, stepLT D' SHF t', ?_, all.map fun _ _ z => z.step SHF D'⟩
      exact SHF.at nL.1 nL.2 eL
    · obtain ⟨_, _, _, _, _, _, _, _, _, _, rfl, _, t, _⟩ := z
      exact q _ t

end
end Cl

set_option maxHeartbeats 0
namespace Cl
open PySem PySem.Spec PyProof.Rows L2
open GxR (TabB TabG)

section
variable {P : Program} {w : World} {K : PySem.W.Frag} {mg : Str → Option Value} {base : Heap}

theorem okway_off {f : Addr} {fd : FuncData} (F : Fun K "way_off" "way_off" sway_off f fd) (T : Bt mg) (Dway_from : Def P w K mg base 2 "way_from" ["grain", "line", "corner"] (spFrom K)) (Dstep_of : Def P w K mg base 1 "step_of" ["line"] (spStep K)) :
    FnG P w K mg base CX0 3 f fd ["grain", "line", "corner", "share"] (spWayOff K) := by
  refine okG (k := 2) F scway_off (fun vs H Q E h => ?_) (fun cdv A outer s H vs Q E hr h => ?_)
  · obtain ⟨g, v, u, x, r, c, s, rfl, _⟩ := h
    rfl
  · obtain ⟨g, v, u, x, r, c, s, rfl, hL, hu, hx, hb, hk, q⟩ := h
    refine ⟨_, (pss_cons (ps_asg (pv 3) (pg_tup (by rfl) (pgs_cons (pg_name (i := 4) scway_off.nd rfl (.inl rfl)) (pgs_cons (pg_name (i := 5) scway_off.nd rfl (.inl rfl)) pgs_nil))))
      (pss_cons (ps_asg (tupN (pa_cons (callD Dway_from (hr.mono (by decide)) (pa_cons (pv 0) (pa_cons (pv 1) (pa_cons (pv 2) pa_nil)))) (pa_cons (callD Dstep_of (hr.mono (by decide)) (pa_cons (pv 1) pa_nil)) pa_nil))) (pg_tup (by rfl) (pgs_cons (pg_tup (by rfl) (pgs_cons (pg_name (i := 6) scway_off.nd rfl (.inl rfl)) (pgs_cons (pg_name (i := 7) scway_off.nd rfl (.inl rfl)) pgs_nil))) (pgs_cons (pg_tup (by rfl) (pgs_cons (pg_name (i := 8) scway_off.nd rfl (.inl rfl)) (pgs_cons (pg_name (i := 9) scway_off.nd rfl (.inl rfl)) pgs_nil))) pgs_nil))))
      (pss_one (ps_ret (tupN (pa_cons (pe_callB (call_max2 rfl) (by rfl) T.max (by decide +kernel) (pa_cons (pe_callB call_abs (by rfl) T.abs (by decide +kernel) (pa_cons (pe_op op_add (pe_op op_mul (pv 5) (pv 6)) (pe_op op_mul (pv 4) (pv 8))) pa_nil)) (pa_cons (pe_callB call_abs (by rfl) T.abs (by decide +kernel) (pa_cons (pe_op op_add (pe_op op_mul (pv 5) (pv 7)) (pe_op op_mul (pv 4) (pv 9))) pa_nil)) pa_nil))) (pa_cons (pe_op op_mul (pv 5) (pv 0)) pa_nil))))))), ?_⟩
    obtain ⟨a, rfl, ha⟩ := id hx
    have bx := xg_bd hb
    have bd := dlt_bd hb
    have fb := far_bd hb hk.1 hk.2.1 hk.2.2.2
    obtain ⟨k0, k1, m0, m1⟩ := hk
    have g0 := hb.1
    have g1 := hb.2.1
    refine ⟨_, rfl, a, _, rfl, ha, rfl, _, _, rfl, _, _, rfl, rfl, ?_⟩
    refine ⟨_, rfl, _, rfl, _, rfl, g, v, u, r, c, rfl, hL, hu, hb, fun w1 H1 s1 e1 => ⟨_, rfl, v, r, rfl, hL.same s1, fun w2 H2 s2 e2 => ?_⟩⟩
    obtain ⟨b1, rfl, h1⟩ := e1.same s2
    obtain ⟨b2, rfl, h2⟩ := e2
    refine ⟨(by show 2 ≤ sizeLine; decide), fun p3 H3 n3 s3 e3 => ⟨p3, _, rfl, .inl (.inl e3), rfl, _, _, rfl, b1, _, rfl, seT s3 h1, rfl, _, _, rfl, _, _, rfl, rfl, _, _, rfl, b2, _, rfl, seT s3 h2, rfl, _, _, rfl, _, _, rfl, rfl, rfl, ?_⟩⟩
    refine ⟨_, rfl, _, rfl, _, _, rfl, rfl, .inl (by omega), _, rfl, _, rfl, _, _, rfl, rfl, .inl (by omega), _, _, rfl, rfl, _, rfl, _, rfl, _, rfl, _, _, rfl, rfl, .inl (by omega), _, rfl, _, rfl, _, _, rfl, rfl, .inl (by omega), _, _, rfl, rfl, _, rfl, _, _, rfl, _, rfl, _, rfl, _, _, rfl, rfl, .inl (by omega), (by show 2 ≤ sizeLine; decide), fun p4 H4 n4 s4 e4 => ?_⟩
    have mg : 0 < s.2 * g := Int.mul_pos m0 g0
    have mg1 := (prod_bd (a := s.2) (b := g) (B := 1000) (by omega) m1 (by omega) (by decide)).2
    exact q _ H4 ((s1.trans s2).trans (s3.trans s4)) ⟨p4, rfl, .inl (.inl e4)⟩ ⟨by have := far_nn g r c s.1 s.2; show -(2 ^ 60) < farN g r c s.1 s.2; omega, by show farN g r c s.1 s.2 < 2 ^ 60; omega, mg, by show s.2 * g < 2 ^ 60; omega⟩

theorem okturning_shares {f : Addr} {fd : FuncData} (F : Fun K "turning_shares" "turning_shares" sturning_shares f fd) (T : Bt mg) (Dway_from : Def P w K mg base 2 "way_from" ["grain", "line", "corner"] (spFrom K)) (Dstep_of : Def P w K mg base 1 "step_of" ["line"] (spStep K)) (Dlowest : Def P w K mg base 2 "lowest" ["n", "d"] (spLowG K)) :
    FnG P w K mg base CX0 3 f fd ["grain", "line", "corner"] (spTurning K) := by
  refine okG (k := 2) F scturning_shares (fun vs H Q E h => ?_) (fun cdv A outer s H vs Q E hr h => ?_)
  · obtain ⟨g, v, u, r, c, rfl, _⟩ := h
    rfl
  · obtain ⟨g, v, u, r, c, rfl, hL, hu, hb, q⟩ := h
    refine ⟨_, (pss_cons (ps_asg (tupN (pa_cons (callD Dway_from (hr.mono (by decide)) (pa_cons (pv 0) (pa_cons (pv 1) (pa_cons (pv 2) pa_nil)))) (pa_cons (callD Dstep_of (hr.mono (by decide)) (pa_cons (pv 1) pa_nil)) pa_nil))) (pg_tup (by rfl) (pgs_cons (pg_tup (by rfl) (pgs_cons (pg_name (i := 3) scturning_shares.nd rfl (.inl rfl)) (pgs_cons (pg_name (i := 4) scturning_shares.nd rfl (.inl rfl)) pgs_nil))) (pgs_cons (pg_tup (by rfl) (pgs_cons (pg_name (i := 5) scturning_shares.nd rfl (.inl rfl)) (pgs_cons (pg_name (i := 6) scturning_shares.nd rfl (.inl rfl)) pgs_nil))) pgs_nil))))
      (pss_cons (ps_set (i := 7) scturning_shares.nd rfl (.inl rfl) (lstN (pa_cons (tupN (pa_cons pe_int (pa_cons pe_int pa_nil))) pa_nil)))
      (pss_cons (ps_for PassesOwn.never rfl (pi_tup (tupN (pa_cons (tupN (pa_cons (pe_op op_sub (pv 4) (pv 3)) (pa_cons (pe_op op_sub (pv 5) (pv 6)) pa_nil))) (pa_cons (tupN (pa_cons (pe_op op_sub (pe_un un_neg (pv 3)) (pv 4)) (pa_cons (pe_op op_add (pv 5) (pv 6)) pa_nil))) pa_nil)))) (pg_tup (by rfl) (pgs_cons (pg_name (i := 8) scturning_shares.nd rfl (.inl rfl)) (pgs_cons (pg_name (i := 9) scturning_shares.nd rfl (.inl rfl)) pgs_nil))) (cutS (ps_if (pt_cmpR op_lt (pv 9) pe_int (nomark _)) (pss_one (ps_par (i := 8) (j := 9) (by rfl) scturning_shares.nd rfl rfl (by decide) rfl rfl (pa_cons (pe_un un_neg (pv 8)) (pa_cons (pe_un un_neg (pv 9)) pa_nil)) (by rfl))) pss_nil)
      (pss_one (ps_if (PW.pt (pw_and (pt_chain op_le op_le pe_int (pv 8) (pv 9)) (pw_and1 (pt_cmpR op_gt (pv 9) pe_int (nomark _))))) (pss_one (ps_expr (pe_bm PySem.F.plainAttrs_list PySem.F.slot_list_append PySem.F.type_list_append mt_append (pv 7) (pa_cons (callD Dlowest (hr.mono (by decide)) (pa_cons (pv 8) (pa_cons (pv 9) pa_nil))) pa_nil)))) pss_nil))))
      (pss_one (ps_ret (pv 7)))))), ?_⟩
    have bx := xg_bd hb
    have bd := dlt_bd hb
    refine ⟨_, rfl, _, rfl, _, rfl, g, v, u, r, c, rfl, hL, hu, hb, fun w1 H1 s1 e1 => ⟨_, rfl, v, r, rfl, hL.same s1, fun w2 H2 s2 e2 => ?_⟩⟩
    obtain ⟨b1, rfl, h1⟩ := e1.same s2
    obtain ⟨b2, rfl, h2⟩ := e2
    refine ⟨(by show 2 ≤ sizeLine; decide), fun p3 H3 n3 s3 e3 => ⟨p3, _, rfl, .inl (.inl e3), rfl, _, _, rfl, b1, _, rfl, seT s3 h1, rfl, _, _, rfl, _, _, rfl, rfl, _, _, rfl, b2, _, rfl, seT s3 h2, rfl, _, _, rfl, _, _, rfl, rfl, rfl, ?_⟩⟩
    refine ⟨(by show 2 ≤ sizeLine; decide), fun p4 H4 n4 s4 e4 => ⟨(by show 1 ≤ sizeLine; decide), fun p5 H5 n5 s5 e5 => ?_⟩⟩
    refine ⟨_, rfl, _, rfl, _, _, rfl, rfl, _, rfl, _, rfl, _, _, rfl, rfl, (by show 2 ≤ sizeLine; decide), fun p6 H6 n6 s6 e6 => ?_⟩
    refine ⟨_, rfl, _, rfl, _, rfl, _, _, rfl, rfl, _, rfl, _, rfl, _, _, rfl, rfl, (by show 2 ≤ sizeLine; decide), fun p7 H7 n7 s7 e7 => ⟨(by show 2 ≤ sizeLine; decide), fun p8 H8 n8 s8 e8 => ?_⟩⟩
    have s48 : Same H4 H8 := (s5.trans s6).trans (s7.trans s8)
    have hz : ∀ z, z = tz1 g r c ∨ z = tz2 g r c → (flipS z).2 ≤ 12000000 ∧ -12000000 ≤ z.2 := fun z h => by
      obtain ⟨⟨d1, d2⟩, d3, d4⟩ := bd
      unfold flipS
      rcases h with rfl | rfl
      · unfold tz1
        split
        · exact ⟨by show -((dlt r).1 - (dlt r).2) ≤ _; omega, by show _ ≤ (dlt r).1 - (dlt r).2; omega⟩
        · exact ⟨by show (dlt r).1 - (dlt r).2 ≤ _; omega, by show _ ≤ (dlt r).1 - (dlt r).2; omega⟩
      · unfold tz2
        split
        · exact ⟨by show -((dlt r).1 + (dlt r).2) ≤ _; omega, by show _ ≤ (dlt r).1 + (dlt r).2; omega⟩
        · exact ⟨by show (dlt r).1 + (dlt r).2 ≤ _; omega, by show _ ≤ (dlt r).1 + (dlt r).2; omega⟩
    have e48 : ∀ {b : Addr} {ys : List V}, H4 b = some (.tup ys) → b ≠ p5 := fun h => ne_of_none h n5
    refine ⟨p8, rfl, ⟨_, .inl (.inl e8)⟩, for_tup (K := K) (a := p8) (xs := [.ref p6, .ref p7]) (fun i σ H' => ∃ y8 y9 ws, σ = [some (.int g), some v, some u, some (.int (xg g r c).1), some (.int (xg g r c).2), some (.int (less r.2 r.1).1), some (.int (less r.2 r.1).2), some (.ref p5), y8, y9] ∧ Same H4 H' ∧ H' p8 = some (.tup [.ref p6, .ref p7]) ∧ PtH H' (.ref p6) (tz1 g r c) ∧ PtH H' (.ref p7) (tz2 g r c) ∧ H' p5 = some (.lst ws) ∧ AllAt (At2 K H') ws ((1, 1) :: ([tz1 g r c, tz2 g r c].take i).flatMap tadd) ∧ i ≤ 2) ?_ (fun i σ H' _ z => ?_) (fun i x σ H' hx z => ?_) (fun σ H' z => ?_)⟩
    · refine ⟨_, _, [.ref p4], rfl, s48, e8, ⟨p6, rfl, s8 _ _ (s7 _ _ e6)⟩, ⟨p7, rfl, s8 _ _ e7⟩, s8 _ _ (s7 _ _ (s6 _ _ e5)), .cons ⟨p4, rfl, .inl (.inl (s48 _ _ e4))⟩ .nil, by decide⟩
    · obtain ⟨_, _, _, _, _, k, _⟩ := z
      exact .inl (.inl k)
    · obtain ⟨y8, y9, ws, rfl, sH, k8, k6, k7, k5, all, i2⟩ := z
      obtain ⟨b, z, rfl, hb, hzz, hn⟩ : ∃ b z, x = .ref b ∧ H' b = some (.tup [.int z.1, .int z.2]) ∧ (z = tz1 g r c ∨ z = tz2 g r c) ∧ ([tz1 g r c, tz2 g r c].take (i + 1)).flatMap tadd = ([tz1 g r c, tz2 g r c].take i).flatMap tadd ++ tadd z ∧ i + 1 ≤ 2 := by
        match i, hx with
        | 0, hx => cases hx; obtain ⟨b, e, h⟩ := k6; exact ⟨b, tz1 g r c, e, h, .inl rfl, by simp, by decide⟩
        | 1, hx => cases hx; obtain ⟨b, e, h⟩ := k7; exact ⟨b, tz2 g r c, e, h, .inr rfl, by simp, by decide⟩
        | n + 2, hx => simp at hx
      rw [hn.1, ← List.cons_append]
      refine ⟨b, _, rfl, .inl (.inl hb), rfl, _, _, rfl, _, _, rfl, rfl, ?_⟩
      refine ⟨fun σ' H'' => σ' = [some (.int g), some v, some u, some (.int (xg g r c).1), some (.int (xg g r c).2), some (.int (less r.2 r.1).1), some (.int (less r.2 r.1).2), some (.ref p5), some (.int (flipS z).1), some (.int (flipS z).2)] ∧ H'' = H', ?_, ?_⟩
      · refine ⟨_, rfl, _, _, rfl, rfl, _, rfl, ite2 (fun e => ?_) (fun e => ?_)⟩
        · have e : z.2 < 0 := of_decide_eq_true e
          have ef : flipS z = (-z.1, -z.2) := if_pos e
          refine ⟨_, rfl, _, rfl, _, rfl, _, rfl, _, _, rfl, ?_⟩
          rw [ef]
          exact ⟨rfl, rfl⟩
        · have e : ¬ z.2 < 0 := fun y => e (decide_eq_true y)
          have ef : flipS z = z := if_neg e
          rw [ef]
          exact ⟨rfl, rfl⟩
      · rintro σ' H9 ⟨rfl, rfl⟩
        obtain ⟨w1, w1e⟩ : ∃ y, y = (flipS z).1 := ⟨_, rfl⟩
        obtain ⟨w2, w2e⟩ : ∃ y, y = (flipS z).2 := ⟨_, rfl⟩
        rw [← w1e, ← w2e]
        have none : tadd z = [] → ∃ y8 y9 ws, [some (V.int g), some v, some u, some (.int (xg g r c).1), some (.int (xg g r c).2), some (.int (less r.2 r.1).1), some (.int (less r.2 r.1).2), some (.ref p5), some (.int w1), some (.int w2)] = [some (V.int g), some v, some u, some (.int (xg g r c).1), some (.int (xg g r c).2), some (.int (less r.2 r.1).1), some (.int (less r.2 r.1).2), some (.ref p5), y8, y9] ∧ Same H4 H9 ∧ H9 p8 = some (.tup [.ref p6, .ref p7]) ∧ PtH H9 (.ref p6) (tz1 g r c) ∧ PtH H9 (.ref p7) (tz2 g r c) ∧ H9 p5 = some (.lst ws) ∧ AllAt (At2 K H9) ws ((1, 1) :: ([tz1 g r c, tz2 g r c].take i).flatMap tadd ++ tadd z) ∧ i + 1 ≤ 2 := fun h => by
          rw [h, List.append_nil]
          exact ⟨_, _, ws, rfl, sH, k8, k6, k7, k5, all, hn.2⟩
        refine ⟨_, rfl, _, _, rfl, rfl, _, rfl, ite2 (fun c1 => ⟨_, rfl, _, _, rfl, rfl, _, rfl, ite2 (fun c2 => ⟨_, rfl, _, _, rfl, rfl, _, rfl, ite2 (fun c3 => ?_) (fun c3 => ?_)⟩) (fun c2 => ?_)⟩) (fun c1 => ?_)⟩
        · have c1 : 0 ≤ w1 := of_decide_eq_true c1
          have c2 : w1 ≤ w2 := of_decide_eq_true c2
          have c3 : 0 < w2 := of_decide_eq_true c3
          have et : tadd z = [lowN w1 w2] := by
            unfold tadd
            rw [← w1e, ← w2e, if_pos ⟨⟨c1, c2⟩, c3⟩]
          have wb := (hz z hzz).1
          have lw := all.length
          refine ⟨_, rfl, .inl ⟨rfl, _, .inl (.inl k5)⟩, _, rfl, _, rfl, w1, w2, rfl, c3, by omega, fun w H10 s10 e10 => ⟨p5, ws, _, rfl, rfl, s10 _ _ k5, ?_, ?_⟩⟩
          · have l2 : ((1, 1) :: ([tz1 g r c, tz2 g r c].take i).flatMap tadd).length ≤ 3 := by
              have t1 : ∀ z, (tadd z).length ≤ 1 := fun z => by unfold tadd; split <;> simp
              have := t1 (tz1 g r c)
              have := t1 (tz2 g r c)
              match i, i2 with
              | 0, _ => simp
              | 1, _ => simp; omega
              | 2, _ => simp; omega
            rw [lw, sizeLine_eq]; omega
          · have k5' := s10 _ _ k5
            rw [et]
            exact ⟨_, _, ws ++ [w], rfl, (sH.trans s10).upN n5, tupU k5' (s10 _ _ k8), (k6.same s10).upd k5', (k7.same s10).upd k5', upd_same, (all.map fun _ _ z => At2U (z.same s10) k5').app (.cons (At2U e10 k5') .nil), hn.2⟩
        · exact none (by unfold tadd; rw [← w1e, ← w2e, if_neg fun y => c3 (decide_eq_true y.2)])
        · exact iteF (none (by unfold tadd; rw [← w1e, ← w2e, if_neg fun y => c2 (decide_eq_true y.1.2)]))
        · exact ⟨_, rfl, iteF (iteF (none (by unfold tadd; rw [← w1e, ← w2e, if_neg fun y => c1 (decide_eq_true y.1.1)])))⟩
    · obtain ⟨y8, y9, ws, rfl, sH, k8, k6, k7, k5, all, i2⟩ := z
      refine ⟨_, rfl, q p5 H' ws (((s1.trans s2).trans (s3.trans s4)).trans sH) k5 ?_ ?_⟩
      · have : tsh g r c = (1, 1) :: ([tz1 g r c, tz2 g r c].take 2).flatMap tadd := by unfold tsh; simp
        rw [this]
        exact all
      · intro s hs
        unfold tsh at hs
        rcases List.mem_cons.mp hs with rfl | hs
        · exact ⟨by decide, by decide, by decide, by decide⟩
        · rcases List.mem_append.mp hs with hs | hs
          · have h := tadd_in hs
            have := hz _ (.inl rfl)
            exact ⟨h.2.1, h.2.2.1, h.1, by omega⟩
          · have h := tadd_in hs
            have := hz _ (.inr rfl)
            exact ⟨h.2.1, h.2.2.1, h.1, by omega⟩

theorem oknearest_share {f : Addr} {fd : FuncData} (F : Fun K "nearest_share" "nearest_share" snearest_share f fd) (T : Bt mg) (Dturning_shares : Def P w K mg base 3 "turning_shares" ["grain", "line", "corner"] (spTurning K)) (Dway_off : Def P w K mg base 3 "way_off" ["grain", "line", "corner", "share"] (spWayOff K)) (Dis_less : Def P w K mg base 1 "is_less" ["one", "other"] (spSooner K)) :
    FnG P w K mg base CX0 4 f fd ["grain", "line", "corner"] (spNearS K) := by
  refine okG (k := 3) F scnearest_share (fun vs H Q E h => ?_) (fun cdv A outer s H vs Q E hr h => ?_)
  · obtain ⟨g, v, u, r, c, rfl, _⟩ := h
    rfl
  · obtain ⟨g, v, u, r, c, rfl, hL, hu, hb, q⟩ := h
    refine ⟨_, (pss_cons (ps_set (i := 3) scnearest_share.nd rfl (.inl rfl) (tupN (pa_cons pe_int (pa_cons pe_int pa_nil))))
      (pss_cons (ps_for PassesOwn.never rfl (pi_list (callD Dturning_shares (hr.mono (by decide)) (pa_cons (pv 0) (pa_cons (pv 1) (pa_cons (pv 2) pa_nil))))) (pg_name (i := 4) scnearest_share.nd rfl (.inl rfl)) (pss_one (ps_if (pt_val (callD Dis_less (hr.mono (by decide)) (pa_cons (callD Dway_off (hr.mono (by decide)) (pa_cons (pv 0) (pa_cons (pv 1) (pa_cons (pv 2) (pa_cons (pv 4) pa_nil))))) (pa_cons (callD Dway_off (hr.mono (by decide)) (pa_cons (pv 0) (pa_cons (pv 1) (pa_cons (pv 2) (pa_cons (pv 3) pa_nil))))) pa_nil)))) (pss_one (ps_set (i := 3) scnearest_share.nd rfl (.inl rfl) (pv 4))) pss_nil)))
      (pss_one (ps_ret (pv 3))))), ?_⟩
    refine ⟨(by show 2 ≤ sizeLine; decide), fun p1 H1 n1 s1 e1 => ?_⟩
    refine ⟨_, rfl, _, rfl, _, rfl, g, v, u, r, c, rfl, hL.same s1, hu.same s1, hb, fun L H2 ws s2 e2 hws hok => ?_⟩
    have s12 := s1.trans s2
    refine ⟨L, rfl, ⟨ws, .inl (.inl e2)⟩, for_list (K := K) (a := L) (xs := ws) (fun i σ H' => ∃ b y4, σ = [some (.int g), some v, some u, some b, y4] ∧ Same H2 H' ∧ At2 K H' b (((tsh g r c).take i).foldl (pick g r c) (0, 1)) ∧ okK (((tsh g r c).take i).foldl (pick g r c) (0, 1)).1 (((tsh g r c).take i).foldl (pick g r c) (0, 1)).2) ?_ (fun i σ H' _ z => ?_) (fun i x σ H' hx z => ?_) (fun σ H' z => ?_)⟩
    · exact ⟨_, _, rfl, .refl _, ⟨p1, rfl, .inl (.inl (s2 _ _ e1))⟩, (show okK 0 1 from ⟨by decide, by decide, by decide, by decide⟩)⟩
    · obtain ⟨_, _, _, sH, _⟩ := z
      exact .inl (.inl (sH _ _ e2))
    · obtain ⟨b, y4, rfl, sH, hbb, okb⟩ := z
      obtain ⟨s, hs, hxs⟩ := hws.get hx
      have ok := hok s (List.mem_of_getElem? hs)
      rw [List.take_add_one, hs, Option.toList_some, List.foldl_append, List.foldl_cons, List.foldl_nil]
      generalize ((tsh g r c).take i).foldl (pick g r c) (0, 1) = bb at hbb okb
      have sA := s12.trans sH
      refine ⟨_, rfl, _, rfl, _, rfl, _, rfl, g, v, u, x, r, c, s, rfl, hL.same sA, hu.same sA, hxs.same sH, hb, ok, fun w1 H3 s3 e3 b3 => ?_⟩
      have sB := sA.trans s3
      refine ⟨_, rfl, _, rfl, _, rfl, _, rfl, g, v, u, b, r, c, bb, rfl, hL.same sB, hu.same sB, hbb.same s3, hb, okb, fun w2 H4 s4 e4 b4 => ⟨w1, w2, _, _, rfl, e3.same s4, e4, b3, b4, _, rfl, ite2 (fun e => ?_) (fun e => ?_)⟩⟩
      · have e := of_decide_eq_true e
        have ep : pick g r c bb s = s := if_pos e
        rw [ep]
        exact ⟨_, rfl, _, _, rfl, sH.trans (s3.trans s4), hxs.same (sH.trans (s3.trans s4)), ok⟩
      · have ep : pick g r c bb s = bb := if_neg fun z => e (decide_eq_true z)
        rw [ep]
        exact ⟨_, _, rfl, sH.trans (s3.trans s4), hbb.same (s3.trans s4), okb⟩
    · obtain ⟨b, y4, rfl, sH, hbb, okb⟩ := z
      have hl : ws.length = (tsh g r c).length := hws.length
      rw [hl, List.take_length] at hbb okb
      refine ⟨_, rfl, q b H' (s12.trans sH) hbb okb ?_⟩
      obtain ⟨h1, h2⟩ := fold_min (g := g) (r := r) (c := c) hb.1 (tsh g r c) (0, 1) (by decide) fun s hs => (hok s hs).2.2.1
      exact nst_of hb.1 (cov_tsh g r c) okb.1 okb.2.1 okb.2.2.1 h2

end
end Cl

set_option maxHeartbeats 0
namespace Cl
open PySem PySem.Spec PyProof.Rows L2
open GxR (TabB TabG)

def spLawTs (K : PySem.W.Frag) : List (Addr × Addr) → List (Addr × Addr) → Sp
  | [], [p] => spLaw24 K p.2
  | _, _ => fun _ _ _ _ => True
def noTab (K : PySem.W.Frag) : Bool := K.all fun p => match p.2.cls, p.2.data with
  | .none, .fields vs => vs.size != 0
  | _, _ => true
theorem noTab_at {K : PySem.W.Frag} {h : Heap} {P : Addr} (X : K.In h) (n : noTab K = true) (e : h.get? P = some { cls := .none, data := .fields #[] }) : K.lookup P = none := by
  cases q : K.lookup P with
  | none => rfl
  | some o =>
    have h1 := X _ _ q
    rw [e] at h1
    cases h1
    have hm : ∀ (L : List (Addr × Obj)) (o : Obj), L.lookup P = some o → (P, o) ∈ L := fun L => by
      induction L with
      | nil => intro o z; cases z
      | cons y L ih =>
        intro o z
        rw [List.lookup_cons] at z
        split at z
        · rename_i hb
          have := eq_of_beq hb
          cases z
          rw [this]
          exact List.mem_cons_self ..
        · exact List.mem_cons_of_mem _ (ih _ z)
    have := List.all_eq_true.mp n _ (hm _ _ q)
    cases this

theorem all_mk {l : PySem.W.OpenLaw} {w : World} {K : PySem.W.Frag} {h : Heap} {mg : Str → Option Value} {fa : Addr} (X : K.In h) (G : h.Ns mainGlobals mg) (hfa : mg "law" = some (.ref fa))
    {f_law_deck : Addr} {od_law_deck an_law_deck : Option Addr} {sl_law_deck : Array (Option Value)} {oc_law_deck kV_law_deck dc_law_deck pm_law_deck cd_law_deck ct_law_deck : Value}
    {f_law_draw : Addr} {od_law_draw an_law_draw : Option Addr} {sl_law_draw : Array (Option Value)} {oc_law_draw kV_law_draw dc_law_draw pm_law_draw cd_law_draw ct_law_draw : Value}
    {f_law_less : Addr} {od_law_less an_law_less : Option Addr} {sl_law_less : Array (Option Value)} {oc_law_less kV_law_less dc_law_less pm_law_less cd_law_less ct_law_less : Value}
    {fgreatest_parting : Addr} {odgreatest_parting angreatest_parting : Option Addr} {slgreatest_parting : Array (Option Value)} {ocgreatest_parting kVgreatest_parting dcgreatest_parting pmgreatest_parting cdgreatest_parting ctgreatest_parting : Value}
    {fstep_of : Addr} {odstep_of anstep_of : Option Addr} {slstep_of : Array (Option Value)} {ocstep_of kVstep_of dcstep_of pmstep_of cdstep_of ctstep_of : Value}
    {f_law_turn : Addr} {od_law_turn an_law_turn : Option Addr} {sl_law_turn : Array (Option Value)} {oc_law_turn kV_law_turn dc_law_turn pm_law_turn cd_law_turn ct_law_turn : Value}
    {f_law_nearest : Addr} {od_law_nearest an_law_nearest : Option Addr} {sl_law_nearest : Array (Option Value)} {oc_law_nearest kV_law_nearest dc_law_nearest pm_law_nearest cd_law_nearest ct_law_nearest : Value}
    {f_law_unlike : Addr} {od_law_unlike an_law_unlike : Option Addr} {sl_law_unlike : Array (Option Value)} {oc_law_unlike kV_law_unlike dc_law_unlike pm_law_unlike cd_law_unlike ct_law_unlike : Value}
    {f_law_moved : Addr} {od_law_moved an_law_moved : Option Addr} {sl_law_moved : Array (Option Value)} {oc_law_moved kV_law_moved dc_law_moved pm_law_moved cd_law_moved ct_law_moved : Value}
    {fis_less : Addr} {odis_less anis_less : Option Addr} {slis_less : Array (Option Value)} {ocis_less kVis_less dcis_less pmis_less cdis_less ctis_less : Value}
    {f_law_far : Addr} {od_law_far an_law_far : Option Addr} {sl_law_far : Array (Option Value)} {oc_law_far kV_law_far dc_law_far pm_law_far cd_law_far ct_law_far : Value}
    {f_law_lowest : Addr} {od_law_lowest an_law_lowest : Option Addr} {sl_law_lowest : Array (Option Value)} {oc_law_lowest kV_law_lowest dc_law_lowest pm_law_lowest cd_law_lowest ct_law_lowest : Value}
    {f_law_sign : Addr} {od_law_sign an_law_sign : Option Addr} {sl_law_sign : Array (Option Value)} {oc_law_sign kV_law_sign dc_law_sign pm_law_sign cd_law_sign ct_law_sign : Value}
    {f_law_met : Addr} {od_law_met an_law_met : Option Addr} {sl_law_met : Array (Option Value)} {oc_law_met kV_law_met dc_law_met pm_law_met cd_law_met ct_law_met : Value}
    {f_law_grain : Addr} {od_law_grain an_law_grain : Option Addr} {sl_law_grain : Array (Option Value)} {oc_law_grain kV_law_grain dc_law_grain pm_law_grain cd_law_grain ct_law_grain : Value}
    {f_law_point : Addr} {od_law_point an_law_point : Option Addr} {sl_law_point : Array (Option Value)} {oc_law_point kV_law_point dc_law_point pm_law_point cd_law_point ct_law_point : Value}
    {f_law_common : Addr} {od_law_common an_law_common : Option Addr} {sl_law_common : Array (Option Value)} {oc_law_common kV_law_common dc_law_common pm_law_common cd_law_common ct_law_common : Value}
    {flowest : Addr} {odlowest anlowest : Option Addr} {sllowest : Array (Option Value)} {oclowest kVlowest dclowest pmlowest cdlowest ctlowest : Value}
    {fgreater_of : Addr} {odgreater_of angreater_of : Option Addr} {slgreater_of : Array (Option Value)} {ocgreater_of kVgreater_of dcgreater_of pmgreater_of cdgreater_of ctgreater_of : Value}
    {fway_from : Addr} {odway_from anway_from : Option Addr} {slway_from : Array (Option Value)} {ocway_from kVway_from dcway_from pmway_from cdway_from ctway_from : Value}
    {f_law_off : Addr} {od_law_off an_law_off : Option Addr} {sl_law_off : Array (Option Value)} {oc_law_off kV_law_off dc_law_off pm_law_off cd_law_off ct_law_off : Value}
    {f_law_any_path : Addr} {od_law_any_path an_law_any_path : Option Addr} {sl_law_any_path : Array (Option Value)} {oc_law_any_path kV_law_any_path dc_law_any_path pm_law_any_path cd_law_any_path ct_law_any_path : Value}
    {f_law_far_lines : Addr} {od_law_far_lines an_law_far_lines : Option Addr} {sl_law_far_lines : Array (Option Value)} {oc_law_far_lines kV_law_far_lines dc_law_far_lines pm_law_far_lines cd_law_far_lines ct_law_far_lines : Value}
    {f_law_line : Addr} {od_law_line an_law_line : Option Addr} {sl_law_line : Array (Option Value)} {oc_law_line kV_law_line dc_law_line pm_law_line cd_law_line ct_law_line : Value}
    {f_law_corners : Addr} {od_law_corners an_law_corners : Option Addr} {sl_law_corners : Array (Option Value)} {oc_law_corners kV_law_corners dc_law_corners pm_law_corners cd_law_corners ct_law_corners : Value}
    {fway_off : Addr} {odway_off anway_off : Option Addr} {slway_off : Array (Option Value)} {ocway_off kVway_off dcway_off pmway_off cdway_off ctway_off : Value}
    {fturning_shares : Addr} {odturning_shares anturning_shares : Option Addr} {slturning_shares : Array (Option Value)} {octurning_shares kVturning_shares dcturning_shares pmturning_shares cdturning_shares ctturning_shares : Value}
    {f_law_lines : Addr} {od_law_lines an_law_lines : Option Addr} {sl_law_lines : Array (Option Value)} {oc_law_lines kV_law_lines dc_law_lines pm_law_lines cd_law_lines ct_law_lines : Value}
    {fnearest_share : Addr} {odnearest_share annearest_share : Option Addr} {slnearest_share : Array (Option Value)} {ocnearest_share kVnearest_share dcnearest_share pmnearest_share cdnearest_share ctnearest_share : Value}
    {foff_of : Addr} {odoff_of anoff_of : Option Addr} {sloff_of : Array (Option Value)} {ocoff_of kVoff_of dcoff_of pmoff_of cdoff_of ctoff_of : Value}
    {f_law_path : Addr} {od_law_path an_law_path : Option Addr} {sl_law_path : Array (Option Value)} {oc_law_path kV_law_path dc_law_path pm_law_path cd_law_path ct_law_path : Value}
    {f_law_told : Addr} {od_law_told an_law_told : Option Addr} {sl_law_told : Array (Option Value)} {oc_law_told kV_law_told dc_law_told pm_law_told cd_law_told ct_law_told : Value}
    {f_law_cases : Addr} {od_law_cases an_law_cases : Option Addr} {sl_law_cases : Array (Option Value)} {oc_law_cases kV_law_cases dc_law_cases pm_law_cases cd_law_cases ct_law_cases : Value}
    {flaw : Addr} {odlaw anlaw : Option Addr} {sllaw : Array (Option Value)} {oclaw kVlaw dclaw pmlaw cdlaw ctlaw : Value}
    (a_law_deck : PySem.W.nsIn K mainGlobals "_law_deck" = some (some (.ref f_law_deck))) (l_law_deck : K.lookup f_law_deck = some ⟨oc_law_deck, od_law_deck, .func (PySem.W.fnOf "_law_deck" "_law_deck" (defArgs s_law_deck) (defBody s_law_deck) (defScope s_law_deck) .none kV_law_deck dc_law_deck pm_law_deck an_law_deck cd_law_deck ct_law_deck), sl_law_deck⟩) (c_law_deck : PySem.W.codeIn K cd_law_deck "_law_deck" = true) (k_law_deck : PySem.W.keepIn K (.ref f_law_deck) = true)
    (a_law_draw : PySem.W.nsIn K mainGlobals "_law_draw" = some (some (.ref f_law_draw))) (l_law_draw : K.lookup f_law_draw = some ⟨oc_law_draw, od_law_draw, .func (PySem.W.fnOf "_law_draw" "_law_draw" (defArgs s_law_draw) (defBody s_law_draw) (defScope s_law_draw) .none kV_law_draw dc_law_draw pm_law_draw an_law_draw cd_law_draw ct_law_draw), sl_law_draw⟩) (c_law_draw : PySem.W.codeIn K cd_law_draw "_law_draw" = true) (k_law_draw : PySem.W.keepIn K (.ref f_law_draw) = true)
    (a_law_less : PySem.W.nsIn K mainGlobals "_law_less" = some (some (.ref f_law_less))) (l_law_less : K.lookup f_law_less = some ⟨oc_law_less, od_law_less, .func (PySem.W.fnOf "_law_less" "_law_less" (defArgs s_law_less) (defBody s_law_less) (defScope s_law_less) .none kV_law_less dc_law_less pm_law_less an_law_less cd_law_less ct_law_less), sl_law_less⟩) (c_law_less : PySem.W.codeIn K cd_law_less "_law_less" = true) (k_law_less : PySem.W.keepIn K (.ref f_law_less) = true)
    (agreatest_parting : PySem.W.nsIn K mainGlobals "greatest_parting" = some (some (.ref fgreatest_parting))) (lgreatest_parting : K.lookup fgreatest_parting = some ⟨ocgreatest_parting, odgreatest_parting, .func (PySem.W.fnOf "greatest_parting" "greatest_parting" (defArgs sgreatest_parting) (defBody sgreatest_parting) (defScope sgreatest_parting) .none kVgreatest_parting dcgreatest_parting pmgreatest_parting angreatest_parting cdgreatest_parting ctgreatest_parting), slgreatest_parting⟩) (cgreatest_parting : PySem.W.codeIn K cdgreatest_parting "greatest_parting" = true) (kgreatest_parting : PySem.W.keepIn K (.ref fgreatest_parting) = true)
    (astep_of : PySem.W.nsIn K mainGlobals "step_of" = some (some (.ref fstep_of))) (lstep_of : K.lookup fstep_of = some ⟨ocstep_of, odstep_of, .func (PySem.W.fnOf "step_of" "step_of" (defArgs sstep_of) (defBody sstep_of) (defScope sstep_of) .none kVstep_of dcstep_of pmstep_of anstep_of cdstep_of ctstep_of), slstep_of⟩) (cstep_of : PySem.W.codeIn K cdstep_of "step_of" = true) (kstep_of : PySem.W.keepIn K (.ref fstep_of) = true)
    (a_law_turn : PySem.W.nsIn K mainGlobals "_law_turn" = some (some (.ref f_law_turn))) (l_law_turn : K.lookup f_law_turn = some ⟨oc_law_turn, od_law_turn, .func (PySem.W.fnOf "_law_turn" "_law_turn" (defArgs s_law_turn) (defBody s_law_turn) (defScope s_law_turn) .none kV_law_turn dc_law_turn pm_law_turn an_law_turn cd_law_turn ct_law_turn), sl_law_turn⟩) (c_law_turn : PySem.W.codeIn K cd_law_turn "_law_turn" = true) (k_law_turn : PySem.W.keepIn K (.ref f_law_turn) = true)
    (a_law_nearest : PySem.W.nsIn K mainGlobals "_law_nearest" = some (some (.ref f_law_nearest))) (l_law_nearest : K.lookup f_law_nearest = some ⟨oc_law_nearest, od_law_nearest, .func (PySem.W.fnOf "_law_nearest" "_law_nearest" (defArgs s_law_nearest) (defBody s_law_nearest) (defScope s_law_nearest) .none kV_law_nearest dc_law_nearest pm_law_nearest an_law_nearest cd_law_nearest ct_law_nearest), sl_law_nearest⟩) (c_law_nearest : PySem.W.codeIn K cd_law_nearest "_law_nearest" = true) (k_law_nearest : PySem.W.keepIn K (.ref f_law_nearest) = true)
    (a_law_unlike : PySem.W.nsIn K mainGlobals "_law_unlike" = some (some (.ref f_law_unlike))) (l_law_unlike : K.lookup f_law_unlike = some ⟨oc_law_unlike, od_law_unlike, .func (PySem.W.fnOf "_law_unlike" "_law_unlike" (defArgs s_law_unlike) (defBody s_law_unlike) (defScope s_law_unlike) .none kV_law_unlike dc_law_unlike pm_law_unlike an_law_unlike cd_law_unlike ct_law_unlike), sl_law_unlike⟩) (c_law_unlike : PySem.W.codeIn K cd_law_unlike "_law_unlike" = true) (k_law_unlike : PySem.W.keepIn K (.ref f_law_unlike) = true)
    (a_law_moved : PySem.W.nsIn K mainGlobals "_law_moved" = some (some (.ref f_law_moved))) (l_law_moved : K.lookup f_law_moved = some ⟨oc_law_moved, od_law_moved, .func (PySem.W.fnOf "_law_moved" "_law_moved" (defArgs s_law_moved) (defBody s_law_moved) (defScope s_law_moved) .none kV_law_moved dc_law_moved pm_law_moved an_law_moved cd_law_moved ct_law_moved), sl_law_moved⟩) (c_law_moved : PySem.W.codeIn K cd_law_moved "_law_moved" = true) (k_law_moved : PySem.W.keepIn K (.ref f_law_moved) = true)
    (ais_less : PySem.W.nsIn K mainGlobals "is_less" = some (some (.ref fis_less))) (lis_less : K.lookup fis_less = some ⟨ocis_less, odis_less, .func (PySem.W.fnOf "is_less" "is_less" (defArgs sis_less) (defBody sis_less) (defScope sis_less) .none kVis_less dcis_less pmis_less anis_less cdis_less ctis_less), slis_less⟩) (cis_less : PySem.W.codeIn K cdis_less "is_less" = true) (kis_less : PySem.W.keepIn K (.ref fis_less) = true)
    (a_law_far : PySem.W.nsIn K mainGlobals "_law_far" = some (some (.ref f_law_far))) (l_law_far : K.lookup f_law_far = some ⟨oc_law_far, od_law_far, .func (PySem.W.fnOf "_law_far" "_law_far" (defArgs s_law_far) (defBody s_law_far) (defScope s_law_far) .none kV_law_far dc_law_far pm_law_far an_law_far cd_law_far ct_law_far), sl_law_far⟩) (c_law_far : PySem.W.codeIn K cd_law_far "_law_far" = true) (k_law_far : PySem.W.keepIn K (.ref f_law_far) = true)
    (a_law_lowest : PySem.W.nsIn K mainGlobals "_law_lowest" = some (some (.ref f_law_lowest))) (l_law_lowest : K.lookup f_law_lowest = some ⟨oc_law_lowest, od_law_lowest, .func (PySem.W.fnOf "_law_lowest" "_law_lowest" (defArgs s_law_lowest) (defBody s_law_lowest) (defScope s_law_lowest) .none kV_law_lowest dc_law_lowest pm_law_lowest an_law_lowest cd_law_lowest ct_law_lowest), sl_law_lowest⟩) (c_law_lowest : PySem.W.codeIn K cd_law_lowest "_law_lowest" = true) (k_law_lowest : PySem.W.keepIn K (.ref f_law_lowest) = true)
    (a_law_sign : PySem.W.nsIn K mainGlobals "_law_sign" = some (some (.ref f_law_sign))) (l_law_sign : K.lookup f_law_sign = some ⟨oc_law_sign, od_law_sign, .func (PySem.W.fnOf "_law_sign" "_law_sign" (defArgs s_law_sign) (defBody s_law_sign) (defScope s_law_sign) .none kV_law_sign dc_law_sign pm_law_sign an_law_sign cd_law_sign ct_law_sign), sl_law_sign⟩) (c_law_sign : PySem.W.codeIn K cd_law_sign "_law_sign" = true) (k_law_sign : PySem.W.keepIn K (.ref f_law_sign) = true)
    (a_law_met : PySem.W.nsIn K mainGlobals "_law_met" = some (some (.ref f_law_met))) (l_law_met : K.lookup f_law_met = some ⟨oc_law_met, od_law_met, .func (PySem.W.fnOf "_law_met" "_law_met" (defArgs s_law_met) (defBody s_law_met) (defScope s_law_met) .none kV_law_met dc_law_met pm_law_met an_law_met cd_law_met ct_law_met), sl_law_met⟩) (c_law_met : PySem.W.codeIn K cd_law_met "_law_met" = true) (k_law_met : PySem.W.keepIn K (.ref f_law_met) = true)
    (a_law_grain : PySem.W.nsIn K mainGlobals "_law_grain" = some (some (.ref f_law_grain))) (l_law_grain : K.lookup f_law_grain = some ⟨oc_law_grain, od_law_grain, .func (PySem.W.fnOf "_law_grain" "_law_grain" (defArgs s_law_grain) (defBody s_law_grain) (defScope s_law_grain) .none kV_law_grain dc_law_grain pm_law_grain an_law_grain cd_law_grain ct_law_grain), sl_law_grain⟩) (c_law_grain : PySem.W.codeIn K cd_law_grain "_law_grain" = true) (k_law_grain : PySem.W.keepIn K (.ref f_law_grain) = true)
    (a_law_point : PySem.W.nsIn K mainGlobals "_law_point" = some (some (.ref f_law_point))) (l_law_point : K.lookup f_law_point = some ⟨oc_law_point, od_law_point, .func (PySem.W.fnOf "_law_point" "_law_point" (defArgs s_law_point) (defBody s_law_point) (defScope s_law_point) .none kV_law_point dc_law_point pm_law_point an_law_point cd_law_point ct_law_point), sl_law_point⟩) (c_law_point : PySem.W.codeIn K cd_law_point "_law_point" = true) (k_law_point : PySem.W.keepIn K (.ref f_law_point) = true)
    (a_law_common : PySem.W.nsIn K mainGlobals "_law_common" = some (some (.ref f_law_common))) (l_law_common : K.lookup f_law_common = some ⟨oc_law_common, od_law_common, .func (PySem.W.fnOf "_law_common" "_law_common" (defArgs s_law_common) (defBody s_law_common) (defScope s_law_common) .none kV_law_common dc_law_common pm_law_common an_law_common cd_law_common ct_law_common), sl_law_common⟩) (c_law_common : PySem.W.codeIn K cd_law_common "_law_common" = true) (k_law_common : PySem.W.keepIn K (.ref f_law_common) = true)
    (alowest : PySem.W.nsIn K mainGlobals "lowest" = some (some (.ref flowest))) (llowest : K.lookup flowest = some ⟨oclowest, odlowest, .func (PySem.W.fnOf "lowest" "lowest" (defArgs slowest) (defBody slowest) (defScope slowest) .none kVlowest dclowest pmlowest anlowest cdlowest ctlowest), sllowest⟩) (clowest : PySem.W.codeIn K cdlowest "lowest" = true) (klowest : PySem.W.keepIn K (.ref flowest) = true)
    (agreater_of : PySem.W.nsIn K mainGlobals "greater_of" = some (some (.ref fgreater_of))) (lgreater_of : K.lookup fgreater_of = some ⟨ocgreater_of, odgreater_of, .func (PySem.W.fnOf "greater_of" "greater_of" (defArgs sgreater_of) (defBody sgreater_of) (defScope sgreater_of) .none kVgreater_of dcgreater_of pmgreater_of angreater_of cdgreater_of ctgreater_of), slgreater_of⟩) (cgreater_of : PySem.W.codeIn K cdgreater_of "greater_of" = true) (kgreater_of : PySem.W.keepIn K (.ref fgreater_of) = true)
    (away_from : PySem.W.nsIn K mainGlobals "way_from" = some (some (.ref fway_from))) (lway_from : K.lookup fway_from = some ⟨ocway_from, odway_from, .func (PySem.W.fnOf "way_from" "way_from" (defArgs sway_from) (defBody sway_from) (defScope sway_from) .none kVway_from dcway_from pmway_from anway_from cdway_from ctway_from), slway_from⟩) (cway_from : PySem.W.codeIn K cdway_from "way_from" = true) (kway_from : PySem.W.keepIn K (.ref fway_from) = true)
    (a_law_off : PySem.W.nsIn K mainGlobals "_law_off" = some (some (.ref f_law_off))) (l_law_off : K.lookup f_law_off = some ⟨oc_law_off, od_law_off, .func (PySem.W.fnOf "_law_off" "_law_off" (defArgs s_law_off) (defBody s_law_off) (defScope s_law_off) .none kV_law_off dc_law_off pm_law_off an_law_off cd_law_off ct_law_off), sl_law_off⟩) (c_law_off : PySem.W.codeIn K cd_law_off "_law_off" = true) (k_law_off : PySem.W.keepIn K (.ref f_law_off) = true)
    (a_law_any_path : PySem.W.nsIn K mainGlobals "_law_any_path" = some (some (.ref f_law_any_path))) (l_law_any_path : K.lookup f_law_any_path = some ⟨oc_law_any_path, od_law_any_path, .func (PySem.W.fnOf "_law_any_path" "_law_any_path" (defArgs s_law_any_path) (defBody s_law_any_path) (defScope s_law_any_path) .none kV_law_any_path dc_law_any_path pm_law_any_path an_law_any_path cd_law_any_path ct_law_any_path), sl_law_any_path⟩) (c_law_any_path : PySem.W.codeIn K cd_law_any_path "_law_any_path" = true) (k_law_any_path : PySem.W.keepIn K (.ref f_law_any_path) = true)
    (a_law_far_lines : PySem.W.nsIn K mainGlobals "_law_far_lines" = some (some (.ref f_law_far_lines))) (l_law_far_lines : K.lookup f_law_far_lines = some ⟨oc_law_far_lines, od_law_far_lines, .func (PySem.W.fnOf "_law_far_lines" "_law_far_lines" (defArgs s_law_far_lines) (defBody s_law_far_lines) (defScope s_law_far_lines) .none kV_law_far_lines dc_law_far_lines pm_law_far_lines an_law_far_lines cd_law_far_lines ct_law_far_lines), sl_law_far_lines⟩) (c_law_far_lines : PySem.W.codeIn K cd_law_far_lines "_law_far_lines" = true) (k_law_far_lines : PySem.W.keepIn K (.ref f_law_far_lines) = true)
    (a_law_line : PySem.W.nsIn K mainGlobals "_law_line" = some (some (.ref f_law_line))) (l_law_line : K.lookup f_law_line = some ⟨oc_law_line, od_law_line, .func (PySem.W.fnOf "_law_line" "_law_line" (defArgs s_law_line) (defBody s_law_line) (defScope s_law_line) .none kV_law_line dc_law_line pm_law_line an_law_line cd_law_line ct_law_line), sl_law_line⟩) (c_law_line : PySem.W.codeIn K cd_law_line "_law_line" = true) (k_law_line : PySem.W.keepIn K (.ref f_law_line) = true)
    (a_law_corners : PySem.W.nsIn K mainGlobals "_law_corners" = some (some (.ref f_law_corners))) (l_law_corners : K.lookup f_law_corners = some ⟨oc_law_corners, od_law_corners, .func (PySem.W.fnOf "_law_corners" "_law_corners" (defArgs s_law_corners) (defBody s_law_corners) (defScope s_law_corners) .none kV_law_corners dc_law_corners pm_law_corners an_law_corners cd_law_corners ct_law_corners), sl_law_corners⟩) (c_law_corners : PySem.W.codeIn K cd_law_corners "_law_corners" = true) (k_law_corners : PySem.W.keepIn K (.ref f_law_corners) = true)
    (away_off : PySem.W.nsIn K mainGlobals "way_off" = some (some (.ref fway_off))) (lway_off : K.lookup fway_off = some ⟨ocway_off, odway_off, .func (PySem.W.fnOf "way_off" "way_off" (defArgs sway_off) (defBody sway_off) (defScope sway_off) .none kVway_off dcway_off pmway_off anway_off cdway_off ctway_off), slway_off⟩) (cway_off : PySem.W.codeIn K cdway_off "way_off" = true) (kway_off : PySem.W.keepIn K (.ref fway_off) = true)
    (aturning_shares : PySem.W.nsIn K mainGlobals "turning_shares" = some (some (.ref fturning_shares))) (lturning_shares : K.lookup fturning_shares = some ⟨octurning_shares, odturning_shares, .func (PySem.W.fnOf "turning_shares" "turning_shares" (defArgs sturning_shares) (defBody sturning_shares) (defScope sturning_shares) .none kVturning_shares dcturning_shares pmturning_shares anturning_shares cdturning_shares ctturning_shares), slturning_shares⟩) (cturning_shares : PySem.W.codeIn K cdturning_shares "turning_shares" = true) (kturning_shares : PySem.W.keepIn K (.ref fturning_shares) = true)
    (a_law_lines : PySem.W.nsIn K mainGlobals "_law_lines" = some (some (.ref f_law_lines))) (l_law_lines : K.lookup f_law_lines = some ⟨oc_law_lines, od_law_lines, .func (PySem.W.fnOf "_law_lines" "_law_lines" (defArgs s_law_lines) (defBody s_law_lines) (defScope s_law_lines) .none kV_law_lines dc_law_lines pm_law_lines an_law_lines cd_law_lines ct_law_lines), sl_law_lines⟩) (c_law_lines : PySem.W.codeIn K cd_law_lines "_law_lines" = true) (k_law_lines : PySem.W.keepIn K (.ref f_law_lines) = true)
    (anearest_share : PySem.W.nsIn K mainGlobals "nearest_share" = some (some (.ref fnearest_share))) (lnearest_share : K.lookup fnearest_share = some ⟨ocnearest_share, odnearest_share, .func (PySem.W.fnOf "nearest_share" "nearest_share" (defArgs snearest_share) (defBody snearest_share) (defScope snearest_share) .none kVnearest_share dcnearest_share pmnearest_share annearest_share cdnearest_share ctnearest_share), slnearest_share⟩) (cnearest_share : PySem.W.codeIn K cdnearest_share "nearest_share" = true) (knearest_share : PySem.W.keepIn K (.ref fnearest_share) = true)
    (aoff_of : PySem.W.nsIn K mainGlobals "off_of" = some (some (.ref foff_of))) (loff_of : K.lookup foff_of = some ⟨ocoff_of, odoff_of, .func (PySem.W.fnOf "off_of" "off_of" (defArgs soff_of) (defBody soff_of) (defScope soff_of) .none kVoff_of dcoff_of pmoff_of anoff_of cdoff_of ctoff_of), sloff_of⟩) (coff_of : PySem.W.codeIn K cdoff_of "off_of" = true) (koff_of : PySem.W.keepIn K (.ref foff_of) = true)
    (a_law_path : PySem.W.nsIn K mainGlobals "_law_path" = some (some (.ref f_law_path))) (l_law_path : K.lookup f_law_path = some ⟨oc_law_path, od_law_path, .func (PySem.W.fnOf "_law_path" "_law_path" (defArgs s_law_path) (defBody s_law_path) (defScope s_law_path) .none kV_law_path dc_law_path pm_law_path an_law_path cd_law_path ct_law_path), sl_law_path⟩) (c_law_path : PySem.W.codeIn K cd_law_path "_law_path" = true) (k_law_path : PySem.W.keepIn K (.ref f_law_path) = true)
    (a_law_told : PySem.W.nsIn K mainGlobals "_law_told" = some (some (.ref f_law_told))) (l_law_told : K.lookup f_law_told = some ⟨oc_law_told, od_law_told, .func (PySem.W.fnOf "_law_told" "_law_told" (defArgs s_law_told) (defBody s_law_told) (defScope s_law_told) .none kV_law_told dc_law_told pm_law_told an_law_told cd_law_told ct_law_told), sl_law_told⟩) (c_law_told : PySem.W.codeIn K cd_law_told "_law_told" = true) (k_law_told : PySem.W.keepIn K (.ref f_law_told) = true)
    (a_law_cases : PySem.W.nsIn K mainGlobals "_law_cases" = some (some (.ref f_law_cases))) (l_law_cases : K.lookup f_law_cases = some ⟨oc_law_cases, od_law_cases, .func (PySem.W.fnOf "_law_cases" "_law_cases" (defArgs s_law_cases) (defBody s_law_cases) (defScope s_law_cases) .none kV_law_cases dc_law_cases pm_law_cases an_law_cases cd_law_cases ct_law_cases), sl_law_cases⟩) (c_law_cases : PySem.W.codeIn K cd_law_cases "_law_cases" = true) (k_law_cases : PySem.W.keepIn K (.ref f_law_cases) = true)
    (alaw : PySem.W.nsIn K mainGlobals "law" = some (some (.ref flaw))) (llaw : K.lookup flaw = some ⟨oclaw, odlaw, .func (PySem.W.fnOf "law" "law" (defArgs slaw) (defBody slaw) (defScope slaw) .none kVlaw dclaw pmlaw anlaw cdlaw ctlaw), sllaw⟩) (claw : PySem.W.codeIn K cdlaw "law" = true) (klaw : PySem.W.keepIn K (.ref flaw) = true)
    (z0 : PySem.W.nsIn K mainGlobals "list" = some none) (z1 : PySem.W.nsIn K mainGlobals "sum" = some none) (z2 : PySem.W.nsIn K mainGlobals "len" = some none) (z3 : PySem.W.nsIn K mainGlobals "range" = some none) (z4 : PySem.W.nsIn K mainGlobals "abs" = some none) (z5 : PySem.W.nsIn K mainGlobals "max" = some none) (z6 : PySem.W.nsIn K mainGlobals "min" = some none) (z7 : PySem.W.nsIn K mainGlobals "tuple" = some none) (z8 : PySem.W.nsIn K mainGlobals "int" = some none) (z9 : PySem.W.nsIn K mainGlobals "sorted" = some none) (z10 : PySem.W.nsIn K mainGlobals "repr" = some none) (z11 : PySem.W.nsIn K mainGlobals "zip" = some none) (z12 : PySem.W.nsIn K mainGlobals "dict" = some none)
    (nt : noTab K = true) (tn_law_path : TabN mg h "_law_path")  :
    ∃ (fd : FuncData) (cs1 cs2 : List (Addr × Addr)), (∀ p ∈ cs1 ++ cs2, PySem.W.CodeHd h p.1 p.2 ∧ h.TableAt p.1 p.2 #[] ∧ K.lookup p.2 = none) ∧ (∀ p ∈ cs1, ∀ pp ∈ cs2, p.2 ≠ pp.2) ∧ (∀ (s : Shared) (v : Value), BindsTo s fd ⟨[v], []⟩ [("_law_script", v)]) ∧
      ∀ base : Heap, K.In base → base.Ns mainGlobals mg → (∀ p ∈ cs1 ++ cs2, GxR.TabB base mg p.1 p.2) → FnG l.prog w K mg base CX0 8 fa fd ["_law_script"] (spLawTs K cs1 cs2) := by
  have e := hfa.symm.trans (PySem.W.mg_of X G alaw)
  cases e
  have T : Bt mg := ⟨PySem.W.mg_none_of X G z0, PySem.W.mg_none_of X G z1, PySem.W.mg_none_of X G z2, PySem.W.mg_none_of X G z3, PySem.W.mg_none_of X G z4, PySem.W.mg_none_of X G z5, PySem.W.mg_none_of X G z6, PySem.W.mg_none_of X G z7, PySem.W.mg_none_of X G z8, PySem.W.mg_none_of X G z9, PySem.W.mg_none_of X G z10, PySem.W.mg_none_of X G z11, PySem.W.mg_none_of X G z12⟩
  have F_law_deck := fun_mk (st := s_law_deck) l_law_deck c_law_deck k_law_deck
  have b_law_deck := F_law_deck.binds (ps := ["_law_script"]) fun _ _ _ _ _ _ us hl => match us, hl with | [_], _ => rfl
  have F_law_draw := fun_mk (st := s_law_draw) l_law_draw c_law_draw k_law_draw
  have b_law_draw := F_law_draw.binds (ps := ["_law_deck_here", "_law_most"]) fun _ _ _ _ _ _ us hl => match us, hl with | [_, _], _ => rfl
  have F_law_less := fun_mk (st := s_law_less) l_law_less c_law_less k_law_less
  have b_law_less := F_law_less.binds (ps := ["_law_one", "_law_other"]) fun _ _ _ _ _ _ us hl => match us, hl with | [_, _], _ => rfl
  have Fgreatest_parting := fun_mk (st := sgreatest_parting) lgreatest_parting cgreatest_parting kgreatest_parting
  have bgreatest_parting := Fgreatest_parting.binds (ps := ["n", "m"]) fun _ _ _ _ _ _ us hl => match us, hl with | [_, _], _ => rfl
  have Fstep_of := fun_mk (st := sstep_of) lstep_of cstep_of kstep_of
  have bstep_of := Fstep_of.binds (ps := ["line"]) fun _ _ _ _ _ _ us hl => match us, hl with | [_], _ => rfl
  have F_law_turn := fun_mk (st := s_law_turn) l_law_turn c_law_turn k_law_turn
  have b_law_turn := F_law_turn.binds (ps := ["_law_one", "_law_other"]) fun _ _ _ _ _ _ us hl => match us, hl with | [_, _], _ => rfl
  have F_law_nearest := fun_mk (st := s_law_nearest) l_law_nearest c_law_nearest k_law_nearest
  have b_law_nearest := F_law_nearest.binds (ps := ["_law_grain_here", "_law_spot"]) fun _ _ _ _ _ _ us hl => match us, hl with | [_, _], _ => rfl
  have F_law_unlike := fun_mk (st := s_law_unlike) l_law_unlike c_law_unlike k_law_unlike
  have b_law_unlike := F_law_unlike.binds (ps := ["_law_one", "_law_other"]) fun _ _ _ _ _ _ us hl => match us, hl with | [_, _], _ => rfl
  have F_law_moved := fun_mk (st := s_law_moved) l_law_moved c_law_moved k_law_moved
  have b_law_moved := F_law_moved.binds (ps := ["_law_lines_here", "_law_dx", "_law_dy"]) fun _ _ _ _ _ _ us hl => match us, hl with | [_, _, _], _ => rfl
  have Fis_less := fun_mk (st := sis_less) lis_less cis_less kis_less
  have bis_less := Fis_less.binds (ps := ["one", "other"]) fun _ _ _ _ _ _ us hl => match us, hl with | [_, _], _ => rfl
  have F_law_far := fun_mk (st := s_law_far) l_law_far c_law_far k_law_far
  have b_law_far := F_law_far.binds (ps := ["_law_grain_here", "_law_line_here", "_law_corner"]) fun _ _ _ _ _ _ us hl => match us, hl with | [_, _, _], _ => rfl
  have F_law_lowest := fun_mk (st := s_law_lowest) l_law_lowest c_law_lowest k_law_lowest
  have b_law_lowest := F_law_lowest.binds (ps := ["_law_n", "_law_d"]) fun _ _ _ _ _ _ us hl => match us, hl with | [_, _], _ => rfl
  have F_law_sign := fun_mk (st := s_law_sign) l_law_sign c_law_sign k_law_sign
  have b_law_sign := F_law_sign.binds (ps := ["_law_number"]) fun _ _ _ _ _ _ us hl => match us, hl with | [_], _ => rfl
  have F_law_met := fun_mk (st := s_law_met) l_law_met c_law_met k_law_met
  have b_law_met := F_law_met.binds (ps := ["_law_grain_here", "_law_line_here", "_law_corner"]) fun _ _ _ _ _ _ us hl => match us, hl with | [_, _, _], _ => rfl
  have F_law_grain := fun_mk (st := s_law_grain) l_law_grain c_law_grain k_law_grain
  have b_law_grain := F_law_grain.binds (ps := ["_law_deck_here"]) fun _ _ _ _ _ _ us hl => match us, hl with | [_], _ => rfl
  have F_law_point := fun_mk (st := s_law_point) l_law_point c_law_point k_law_point
  have b_law_point := F_law_point.binds (ps := ["_law_deck_here", "_law_grain_here", "_law_way"]) fun _ _ _ _ _ _ us hl => match us, hl with | [_, _, _], _ => rfl
  have F_law_common := fun_mk (st := s_law_common) l_law_common c_law_common k_law_common
  have b_law_common := F_law_common.binds (ps := ["_law_one", "_law_other"]) fun _ _ _ _ _ _ us hl => match us, hl with | [_, _], _ => rfl
  have Flowest := fun_mk (st := slowest) llowest clowest klowest
  have blowest := Flowest.binds (ps := ["n", "d"]) fun _ _ _ _ _ _ us hl => match us, hl with | [_, _], _ => rfl
  have Fgreater_of := fun_mk (st := sgreater_of) lgreater_of cgreater_of kgreater_of
  have bgreater_of := Fgreater_of.binds (ps := ["one", "other"]) fun _ _ _ _ _ _ us hl => match us, hl with | [_, _], _ => rfl
  have Fway_from := fun_mk (st := sway_from) lway_from cway_from kway_from
  have bway_from := Fway_from.binds (ps := ["grain", "line", "corner"]) fun _ _ _ _ _ _ us hl => match us, hl with | [_, _, _], _ => rfl
  have F_law_off := fun_mk (st := s_law_off) l_law_off c_law_off k_law_off
  have b_law_off := F_law_off.binds (ps := ["_law_grain_here", "_law_line_here", "_law_path_here"]) fun _ _ _ _ _ _ us hl => match us, hl with | [_, _, _], _ => rfl
  have F_law_any_path := fun_mk (st := s_law_any_path) l_law_any_path c_law_any_path k_law_any_path
  have b_law_any_path := F_law_any_path.binds (ps := ["_law_deck_here", "_law_grain_here", "_law_line_here", "_law_lots"]) fun _ _ _ _ _ _ us hl => match us, hl with | [_, _, _, _], _ => rfl
  have F_law_far_lines := fun_mk (st := s_law_far_lines) l_law_far_lines c_law_far_lines k_law_far_lines
  have b_law_far_lines := F_law_far_lines.binds (ps := ["_law_deck_here", "_law_grain_here", "_law_lines_here"]) fun _ _ _ _ _ _ us hl => match us, hl with | [_, _, _], _ => rfl
  have F_law_line := fun_mk (st := s_law_line) l_law_line c_law_line k_law_line
  have b_law_line := F_law_line.binds (ps := ["_law_deck_here", "_law_grain_here", "_law_lines_here"]) fun _ _ _ _ _ _ us hl => match us, hl with | [_, _, _], _ => rfl
  have F_law_corners := fun_mk (st := s_law_corners) l_law_corners c_law_corners k_law_corners
  have b_law_corners := F_law_corners.binds (ps := ["_law_grain_here", "_law_lines_here"]) fun _ _ _ _ _ _ us hl => match us, hl with | [_, _], _ => rfl
  have Fway_off := fun_mk (st := sway_off) lway_off cway_off kway_off
  have bway_off := Fway_off.binds (ps := ["grain", "line", "corner", "share"]) fun _ _ _ _ _ _ us hl => match us, hl with | [_, _, _, _], _ => rfl
  have Fturning_shares := fun_mk (st := sturning_shares) lturning_shares cturning_shares kturning_shares
  have bturning_shares := Fturning_shares.binds (ps := ["grain", "line", "corner"]) fun _ _ _ _ _ _ us hl => match us, hl with | [_, _, _], _ => rfl
  have F_law_lines := fun_mk (st := s_law_lines) l_law_lines c_law_lines k_law_lines
  have b_law_lines := F_law_lines.binds (ps := ["_law_deck_here", "_law_grain_here", "_law_many"]) fun _ _ _ _ _ _ us hl => match us, hl with | [_, _, _], _ => rfl
  have Fnearest_share := fun_mk (st := snearest_share) lnearest_share cnearest_share knearest_share
  have bnearest_share := Fnearest_share.binds (ps := ["grain", "line", "corner"]) fun _ _ _ _ _ _ us hl => match us, hl with | [_, _, _], _ => rfl
  have Foff_of := fun_mk (st := soff_of) loff_of coff_of koff_of
  have boff_of := Foff_of.binds (ps := ["grain", "line", "path"]) fun _ _ _ _ _ _ us hl => match us, hl with | [_, _, _], _ => rfl
  have F_law_path := fun_mk (st := s_law_path) l_law_path c_law_path k_law_path
  have b_law_path := F_law_path.binds (ps := ["_law_grain_here", "_law_line_here", "_law_corners_here"]) fun _ _ _ _ _ _ us hl => match us, hl with | [_, _, _], _ => rfl
  have F_law_told := fun_mk (st := s_law_told) l_law_told c_law_told k_law_told
  have b_law_told := F_law_told.binds (ps := ["_law_grain_here", "_law_line_here", "_law_path_here", "_law_due"]) fun _ _ _ _ _ _ us hl => match us, hl with | [_, _, _, _], _ => rfl
  have F_law_cases := fun_mk (st := s_law_cases) l_law_cases c_law_cases k_law_cases
  have b_law_cases := F_law_cases.binds (ps := ["_law_deck_here"]) fun _ _ _ _ _ _ us hl => match us, hl with | [_], _ => rfl
  have Flaw := fun_mk (st := slaw) llaw claw klaw
  obtain ⟨ft0, ot0, fdt0, c0, Pt0, t1, t2, t3, t4, t50, t60⟩ := tn_law_path
  have e := t1.symm.trans (PySem.W.mg_of X G a_law_path)
  cases e
  have e := t2.symm.trans (X _ _ l_law_path)
  cases e
  cases t3
  have hcd0 : cd_law_path = .ref c0 := t4
  clear t1 t2 t4
  refine ⟨PySem.W.fnOf "law" "law" (defArgs slaw) (defBody slaw) (defScope slaw) .none kVlaw dclaw pmlaw anlaw cdlaw ctlaw, [], [(c0, Pt0)], fun p hp => ?_, fun p hp p' hp' => ?_, fun s v => .of_eq rfl, fun base _ _ hB => ?_⟩
  · simp only [List.cons_append, List.nil_append, List.mem_cons, List.not_mem_nil, or_false] at hp
    rcases hp with rfl
    · exact ⟨t50, t60, noTab_at X nt t60.2⟩
  · exact absurd hp List.not_mem_nil
  have D_law_deck : Def l.prog w K mg base 1 "_law_deck" ["_law_script"] (spDeck K) := .mk1 F_law_deck (ok_law_deck F_law_deck T) (PySem.W.mg_of X G a_law_deck) b_law_deck
  have D_law_draw : Def l.prog w K mg base 1 "_law_draw" ["_law_deck_here", "_law_most"] spDraw := .mk1 F_law_draw (ok_law_draw F_law_draw T) (PySem.W.mg_of X G a_law_draw) b_law_draw
  have D_law_less : Def l.prog w K mg base 1 "_law_less" ["_law_one", "_law_other"] (spLess K) := .mk1 F_law_less (ok_law_less F_law_less T) (PySem.W.mg_of X G a_law_less) b_law_less
  have Dgreatest_parting : Def l.prog w K mg base 1 "greatest_parting" ["n", "m"] spGp := .mk1 Fgreatest_parting (okgreatest_parting Fgreatest_parting T) (PySem.W.mg_of X G agreatest_parting) bgreatest_parting
  have Dstep_of : Def l.prog w K mg base 1 "step_of" ["line"] (spStep K) := .mk1 Fstep_of (okstep_of Fstep_of T) (PySem.W.mg_of X G astep_of) bstep_of
  have D_law_turn : Def l.prog w K mg base 1 "_law_turn" ["_law_one", "_law_other"] (spTurn K) := .mk1 F_law_turn (ok_law_turn F_law_turn T) (PySem.W.mg_of X G a_law_turn) b_law_turn
  have D_law_nearest : Def l.prog w K mg base 1 "_law_nearest" ["_law_grain_here", "_law_spot"] (spNearN K) := .mk1 F_law_nearest (ok_law_nearest F_law_nearest T) (PySem.W.mg_of X G a_law_nearest) b_law_nearest
  have D_law_unlike : Def l.prog w K mg base 1 "_law_unlike" ["_law_one", "_law_other"] (spUnlike K) := .mk1 F_law_unlike (ok_law_unlike F_law_unlike T) (PySem.W.mg_of X G a_law_unlike) b_law_unlike
  have D_law_moved : Def l.prog w K mg base 1 "_law_moved" ["_law_lines_here", "_law_dx", "_law_dy"] (spMovedW K) := .mk1 F_law_moved (ok_law_moved F_law_moved T) (PySem.W.mg_of X G a_law_moved) b_law_moved
  have Dis_less : Def l.prog w K mg base 1 "is_less" ["one", "other"] (spSooner K) := .mk1 Fis_less (okis_less Fis_less T) (PySem.W.mg_of X G ais_less) bis_less
  have D_law_far : Def l.prog w K mg base 1 "_law_far" ["_law_grain_here", "_law_line_here", "_law_corner"] (spFar24 K) := .mk1 F_law_far (ok_law_far F_law_far T) (PySem.W.mg_of X G a_law_far) b_law_far
  have D_law_lowest : Def l.prog w K mg base 1 "_law_lowest" ["_law_n", "_law_d"] (spLow24 K) := .mk1 F_law_lowest (ok_law_lowest F_law_lowest T) (PySem.W.mg_of X G a_law_lowest) b_law_lowest
  have D_law_sign : Def l.prog w K mg base 1 "_law_sign" ["_law_number"] spSign := .mk1 F_law_sign (ok_law_sign F_law_sign T) (PySem.W.mg_of X G a_law_sign) b_law_sign
  have D_law_met : Def l.prog w K mg base 1 "_law_met" ["_law_grain_here", "_law_line_here", "_law_corner"] (spMet24 K) := .mk1 F_law_met (ok_law_met F_law_met T) (PySem.W.mg_of X G a_law_met) b_law_met
  have D_law_movedL : Def l.prog w K mg base 1 "_law_moved" ["_law_lines_here", "_law_dx", "_law_dy"] (spMovedL24 K) := .mk1 F_law_moved (ok_law_movedL F_law_moved T) (PySem.W.mg_of X G a_law_moved) b_law_moved
  have D_law_grain : Def l.prog w K mg base 2 "_law_grain" ["_law_deck_here"] spGrainW := .mk1 F_law_grain (ok_law_grain F_law_grain T D_law_draw) (PySem.W.mg_of X G a_law_grain) b_law_grain
  have D_law_point : Def l.prog w K mg base 2 "_law_point" ["_law_deck_here", "_law_grain_here", "_law_way"] (spPointW K) := .mk1 F_law_point (ok_law_point F_law_point T D_law_draw) (PySem.W.mg_of X G a_law_point) b_law_point
  have D_law_common : Def l.prog w K mg base 2 "_law_common" ["_law_one", "_law_other"] (spCmn7 K) := .mk1 F_law_common (ok_law_common F_law_common T D_law_less D_law_turn) (PySem.W.mg_of X G a_law_common) b_law_common
  have Dlowest : Def l.prog w K mg base 2 "lowest" ["n", "d"] (spLowG K) := .mk1 Flowest (oklowest Flowest T Dgreatest_parting) (PySem.W.mg_of X G alowest) blowest
  have Dgreater_of : Def l.prog w K mg base 2 "greater_of" ["one", "other"] (spLater K later) := .mk1 Fgreater_of (okgreater_of Fgreater_of T Dis_less) (PySem.W.mg_of X G agreater_of) bgreater_of
  have Dway_from : Def l.prog w K mg base 2 "way_from" ["grain", "line", "corner"] (spFrom K) := .mk1 Fway_from (okway_from Fway_from T Dstep_of) (PySem.W.mg_of X G away_from) bway_from
  have D_law_off : Def l.prog w K mg base 2 "_law_off" ["_law_grain_here", "_law_line_here", "_law_path_here"] (spOff24 K) := .mk1 F_law_off (ok_law_off F_law_off T D_law_far D_law_lowest) (PySem.W.mg_of X G a_law_off) b_law_off
  have D_law_any_path : Def l.prog w K mg base 2 "_law_any_path" ["_law_deck_here", "_law_grain_here", "_law_line_here", "_law_lots"] (spAny24 K) := .mk1 F_law_any_path (ok_law_any_path F_law_any_path T D_law_draw D_law_nearest) (PySem.W.mg_of X G a_law_any_path) b_law_any_path
  have D_law_far_lines : Def l.prog w K mg base 2 "_law_far_lines" ["_law_deck_here", "_law_grain_here", "_law_lines_here"] (spFarL24 K) := .mk1 F_law_far_lines (ok_law_far_lines F_law_far_lines T D_law_draw D_law_moved) (PySem.W.mg_of X G a_law_far_lines) b_law_far_lines
  have D_law_line : Def l.prog w K mg base 3 "_law_line" ["_law_deck_here", "_law_grain_here", "_law_lines_here"] (spLine6 K) := .mk1 F_law_line (ok_law_line F_law_line T D_law_draw D_law_unlike D_law_point) (PySem.W.mg_of X G a_law_line) b_law_line
  have D_law_corners : Def l.prog w K mg base 3 "_law_corners" ["_law_grain_here", "_law_lines_here"] (spCornersL K) := .mk1 F_law_corners (ok_law_corners F_law_corners T D_law_nearest D_law_common) (PySem.W.mg_of X G a_law_corners) b_law_corners
  have Dway_off : Def l.prog w K mg base 3 "way_off" ["grain", "line", "corner", "share"] (spWayOff K) := .mk1 Fway_off (okway_off Fway_off T Dway_from Dstep_of) (PySem.W.mg_of X G away_off) bway_off
  have Dturning_shares : Def l.prog w K mg base 3 "turning_shares" ["grain", "line", "corner"] (spTurning K) := .mk1 Fturning_shares (okturning_shares Fturning_shares T Dway_from Dstep_of Dlowest) (PySem.W.mg_of X G aturning_shares) bturning_shares
  have D_law_lines : Def l.prog w K mg base 4 "_law_lines" ["_law_deck_here", "_law_grain_here", "_law_many"] (spLines6 K) := .mk1 F_law_lines (ok_law_lines F_law_lines T D_law_draw D_law_line) (PySem.W.mg_of X G a_law_lines) b_law_lines
  have Dnearest_share : Def l.prog w K mg base 4 "nearest_share" ["grain", "line", "corner"] (spNearS K) := .mk1 Fnearest_share (oknearest_share Fnearest_share T Dturning_shares Dway_off Dis_less) (PySem.W.mg_of X G anearest_share) bnearest_share
  have Doff_of : Def l.prog w K mg base 5 "off_of" ["grain", "line", "path"] (spOffOf K) := .mk1 Foff_of (okoff_of Foff_of T Dnearest_share Dway_off Dgreater_of Dlowest) (PySem.W.mg_of X G aoff_of) boff_of
  have D_law_path : Def l.prog w K mg base 6 "_law_path" ["_law_grain_here", "_law_line_here", "_law_corners_here"] (spPath24 K Pt0) := .mk1 F_law_path (ok_law_path F_law_path hcd0 (hB (c0, Pt0) (by simp)) T D_law_met D_law_sign) (PySem.W.mg_of X G a_law_path) b_law_path
  have D_law_told : Def l.prog w K mg base 6 "_law_told" ["_law_grain_here", "_law_line_here", "_law_path_here", "_law_due"] (spTold24 K) := .mk1 F_law_told (ok_law_told F_law_told T Doff_of) (PySem.W.mg_of X G a_law_told) b_law_told
  have D_law_cases : Def l.prog w K mg base 7 "_law_cases" ["_law_deck_here"] (spCases24 K Pt0) := .mk1 F_law_cases (ok_law_cases F_law_cases T D_law_grain D_law_draw D_law_lines D_law_far_lines D_law_corners D_law_path D_law_any_path) (PySem.W.mg_of X G a_law_cases) b_law_cases

  exact oklaw Flaw T D_law_deck D_law_draw D_law_cases D_law_off D_law_told D_law_movedL Doff_of
end Cl
open PySem PySem.W PyProof.Rows
set_option maxHeartbeats 0 in
theorem PySem.Challenge.cw_cornerlines_k24_how_far_off_holds : PySem.Challenge.rw_cornerlines_k24_how_far_off.Holds := by
  w_on; o_law; k_head; (case hw => w_witness2)
  k_fill
  refine Cl.endGL (l := PySem.Challenge.rw_cornerlines_k24_how_far_off) (n := 63) (k := 8) (x := "_law_script") (ts := ["_law_path"]) (sp := fun K cs1 cs2 => Cl.spLawTs K cs1 cs2) rfl (by decide) rfl ⟨⟨rfl, by decide, by decide⟩, rfl⟩ (by rfl) (fun w h Y => PySem.W.km_in_of Y) ?F ?hsp
  case F =>
    intro w mg fa h KX G hmg tn
    refine' Cl.all_mk KX G hmg ?a0 ?l0 ?c0 ?k0 ?a1 ?l1 ?c1 ?k1 ?a2 ?l2 ?c2 ?k2 ?a3 ?l3 ?c3 ?k3 ?a4 ?l4 ?c4 ?k4 ?a5 ?l5 ?c5 ?k5 ?a6 ?l6 ?c6 ?k6 ?a7 ?l7 ?c7 ?k7 ?a8 ?l8 ?c8 ?k8 ?a9 ?l9 ?c9 ?k9 ?a10 ?l10 ?c10 ?k10 ?a11 ?l11 ?c11 ?k11 ?a12 ?l12 ?c12 ?k12 ?a13 ?l13 ?c13 ?k13 ?a14 ?l14 ?c14 ?k14 ?a15 ?l15 ?c15 ?k15 ?a16 ?l16 ?c16 ?k16 ?a17 ?l17 ?c17 ?k17 ?a18 ?l18 ?c18 ?k18 ?a19 ?l19 ?c19 ?k19 ?a20 ?l20 ?c20 ?k20 ?a21 ?l21 ?c21 ?k21 ?a22 ?l22 ?c22 ?k22 ?a23 ?l23 ?c23 ?k23 ?a24 ?l24 ?c24 ?k24 ?a25 ?l25 ?c25 ?k25 ?a26 ?l26 ?c26 ?k26 ?a27 ?l27 ?c27 ?k27 ?a28 ?l28 ?c28 ?k28 ?a29 ?l29 ?c29 ?k29 ?a30 ?l30 ?c30 ?k30 ?a31 ?l31 ?c31 ?k31 ?a32 ?l32 ?c32 ?k32 ?a33 ?l33 ?c33 ?k33 ?z0 ?z1 ?z2 ?z3 ?z4 ?z5 ?z6 ?z7 ?z8 ?z9 ?z10 ?z11 ?z12 ?nt (tn _ (by simp)) 
    (case nt => first | (with_unfolding_all exact rfl) | (unfold Cl.noTab; with_unfolding_all rfl))
    (case a0 => k_is); (case l0 => k_is); (case c0 => k_is); (case k0 => k_is); (case a1 => k_is); (case l1 => k_is); (case c1 => k_is); (case k1 => k_is); (case a2 => k_is); (case l2 => k_is); (case c2 => k_is); (case k2 => k_is); (case a3 => k_is); (case l3 => k_is); (case c3 => k_is); (case k3 => k_is); (case a4 => k_is); (case l4 => k_is); (case c4 => k_is); (case k4 => k_is); (case a5 => k_is); (case l5 => k_is); (case c5 => k_is); (case k5 => k_is); (case a6 => k_is); (case l6 => k_is); (case c6 => k_is); (case k6 => k_is); (case a7 => k_is); (case l7 => k_is); (case c7 => k_is); (case k7 => k_is); (case a8 => k_is); (case l8 => k_is); (case c8 => k_is); (case k8 => k_is); (case a9 => k_is); (case l9 => k_is); (case c9 => k_is); (case k9 => k_is); (case a10 => k_is); (case l10 => k_is); (case c10 => k_is); (case k10 => k_is); (case a11 => k_is); (case l11 => k_is); (case c11 => k_is); (case k11 => k_is); (case a12 => k_is); (case l12 => k_is); (case c12 => k_is); (case k12 => k_is); (case a13 => k_is); (case l13 => k_is); (case c13 => k_is); (case k13 => k_is); (case a14 => k_is); (case l14 => k_is); (case c14 => k_is); (case k14 => k_is); (case a15 => k_is); (case l15 => k_is); (case c15 => k_is); (case k15 => k_is); (case a16 => k_is); (case l16 => k_is); (case c16 => k_is); (case k16 => k_is); (case a17 => k_is); (case l17 => k_is); (case c17 => k_is); (case k17 => k_is); (case a18 => k_is); (case l18 => k_is); (case c18 => k_is); (case k18 => k_is); (case a19 => k_is); (case l19 => k_is); (case c19 => k_is); (case k19 => k_is); (case a20 => k_is); (case l20 => k_is); (case c20 => k_is); (case k20 => k_is); (case a21 => k_is); (case l21 => k_is); (case c21 => k_is); (case k21 => k_is); (case a22 => k_is); (case l22 => k_is); (case c22 => k_is); (case k22 => k_is); (case a23 => k_is); (case l23 => k_is); (case c23 => k_is); (case k23 => k_is); (case a24 => k_is); (case l24 => k_is); (case c24 => k_is); (case k24 => k_is); (case a25 => k_is); (case l25 => k_is); (case c25 => k_is); (case k25 => k_is); (case a26 => k_is); (case l26 => k_is); (case c26 => k_is); (case k26 => k_is); (case a27 => k_is); (case l27 => k_is); (case c27 => k_is); (case k27 => k_is); (case a28 => k_is); (case l28 => k_is); (case c28 => k_is); (case k28 => k_is); (case a29 => k_is); (case l29 => k_is); (case c29 => k_is); (case k29 => k_is); (case a30 => k_is); (case l30 => k_is); (case c30 => k_is); (case k30 => k_is); (case a31 => k_is); (case l31 => k_is); (case c31 => k_is); (case k31 => k_is); (case a32 => k_is); (case l32 => k_is); (case c32 => k_is); (case k32 => k_is); (case a33 => k_is); (case l33 => k_is); (case c33 => k_is); (case k33 => k_is); (case z0 => k_is); (case z1 => k_is); (case z2 => k_is); (case z3 => k_is); (case z4 => k_is); (case z5 => k_is); (case z6 => k_is); (case z7 => k_is); (case z8 => k_is); (case z9 => k_is); (case z10 => k_is); (case z11 => k_is); (case z12 => k_is)

  case hsp =>
    intro w cs1 cs2 H a ns hl _ hc hc2 hne hS
    unfold Cl.spLawTs
    split
    · rename_i p
      exact ⟨a, ns, rfl, hS, hl, ⟨[], hc2 p (by simp), fun c h => nomatch h⟩, fun H' lt => ⟨rfl, fun q hq => by
        rw [List.mem_singleton.mp hq]
        obtain ⟨cs, e, _⟩ := lt
        exact ⟨cs, e⟩⟩⟩
    · trivial

