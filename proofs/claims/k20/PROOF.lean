import PyProof.Rows.All
import Wide.All
import OpenK.AllK
import Wide.FinOn
import PySem.Challenge.RW_cornerlines_k20_what_is_a_path
import HandS.ForMost
import HandS.Wide
import HandS.EndBits
import HandS.AnyAll
import HandS.EndTab
import PyProof.ReprRoads
import KE.KRevSl
import HandS.IsInst
import HandS.TryOnly
import PyProof.GenCompD
import KE.KIsAll
import KE.DataMinMax
import HandS.TupSets
import KE.SortData
import HandS.Style
import KE.GoesNew
import KE.GoesMore
import HandS.Iter
import HandS.Zip
import HandS.Star
import HandS.Walk
import HandS.SortInts
import HandS.TupAny
import KE.GoesEnum
import PyProof.WalksPairs
import HandS.Lambda
import KE.KMinKey
import HandS.SortKw
import HandS.GenOver
import HandS.GenList
import HandS.DictTup
import PyProof.EqKinds
import PyProof.NeKinds
import PyProof.NeData
import PyProof.Rows.IntBool
import PyProof.Rows.ReprOcc
import PyProof.Rows.StrFit
import HandS.Deep
import HandS.WordsDict
set_option Elab.async false
set_option linter.all false
set_option maxRecDepth 100000
namespace Cl
open PySem PySem.Spec PyProof.Rows L2

/-! ### promises of defs that may be shown (repr) what stands on no guard's list -/
structure RG (k : Nat) (A : Around) : Prop where
  room : Room k A
  gd : A.guards = some []
theorem RG.mono {j k : Nat} {A : Around} (r : RG k A) (h : j ≤ k) : RG j A :=
  ⟨r.room.mono h, r.gd⟩
structure FnG (P : Program) (w : World) (K : PySem.W.Frag) (mg : Str → Option Value)
    (base : Heap) (CX : CXT) (k : Nat) (f : Addr) (fd : FuncData) (ps : List Str) (sp : Sp) : Prop where
  len : ∀ vs H Q E, sp vs H Q E → vs.length = ps.length
  run : ∀ A outer s H args us vs Q E, RG k A → Env0 P w K mg base A outer s H →
    BindsTo s fd args (ps.zip us) → Vals vs us → sp vs H Q E →
    codeAny (model P w) A (.call (.ref f) args) (CR CX outer P w H s Q E) s
section
variable {P : Program} {w : World} {K : PySem.W.Frag} {mg : Str → Option Value} {base : Heap} {CX : CXT}
theorem toG {k : Nat} {f : Addr} {fd : FuncData} {ps : List Str} {sp : Sp}
    (F : FnOk P w K mg base CX k f fd ps sp) : FnG P w K mg base CX k f fd ps sp :=
  ⟨F.len, fun A outer s H args us vs Q E r => F.run A outer s H args us vs Q E r.room⟩

/-- a def with what its body does, where no guard is set -/
theorem okG {x qual : Str} {st : Stmt} {f : Addr} {fd : FuncData} {N ps : List Str} {k : Nat} {sp : Sp}
    (F : Fun K x qual st f fd) (S : FnScope N ps (defScope st))
    (len : ∀ vs H Q E, sp vs H Q E → vs.length = ps.length)
    (body : ∀ (cdv : Value) (A : Around) (outer : List Env) (s : Shared) (H : Hp) (vs : List V) (Q : VK) (E : XK),
      RG k (A.deeper (envOfC qual (defScope st) s.heap.objs.size f cdv)) → sp vs H Q E →
      ∃ t, PSs (cxOf CX0 P w K mg base N qual (defScope st) f cdv A outer s H E).nox (defBody st) t ∧
        t { nx := fun _ H' => Q .non H', rt := Q } (start N vs) H) :
    FnG P w K mg base CX0 (k + 1) f fd ps sp := by
  obtain ⟨oc, od, kV, doc, pm, an, cdv, ct, osl, rfl, lk, hcd⟩ := F.ex
  constructor
  · exact len
  intro A outer s H args us vs Q E hr e0 hb r hsp
  have nvs := len _ _ _ _ hsp
  have keepB : ∀ b o, base.get? b = some o → s.heap.get? b = some o := fun b o z => (e0.bs b o z).1
  have inK : K.In s.heap := e0.mod.kin.keeps keepB
  have nolim : s.heap.NoLimit := e0.mod.nolimit.keeps keepB
  have kinds : ∀ y ∈ ps.zip us, (defScope st).names.lookup y.1 = some .local ∨
      ((defScope st).names.lookup y.1 = some .cell ∧
        ((cellsFrom (s.heap.objs.size + 1) (defScope st).names []).lookup y.1).isSome = true) := by
    rintro ⟨n, v⟩ hy
    rcases S.par n (List.of_mem_zip hy).1 with z | z
    · exact .inl z
    · exact .inr ⟨z, PySem.W.cellsFrom_some _ _ _ (.inl z)⟩
  refine codeAny_call_function hr.room.depth (inK _ _ lk) rfl S.co S.gen rfl
    (PySem.W.codeRec_of inK hcd) (hb _ _ _ _ ?_)
  refine wpAny_newFunctionEnv_cells S.kind kinds fun env he s1 x => ?_
  subst he
  refine ⟨nolim.keeps x.toInCall.keep, codeAny_func ?_⟩
  have hr2 : RG k (A.deeper (envOfC qual (defScope st) s.heap.objs.size f cdv)) := ⟨hr.room.deeper _, hr.gd⟩
  obtain ⟨t, ht, hq⟩ := body cdv A outer s H vs Q E hr2 hsp
  have I : Inv (cxOf CX0 P w K mg base N qual (defScope st) f cdv A outer s H E) [] (start N vs) H s1 :=
    inv_start S hr.room.hd e0 nvs r x
  refine wpAny_mono (ht.nox.run [] s1 (start N vs) H _ I hq) (fun fl s' hs => ?_) fun _ _ z => z
  match fl, hs with
  | .ret u, ⟨v, σ', H', J, rv, q⟩ => exact ⟨v, H', J.os, J.bare, J.base, J.hok, rv, q⟩
  | .next, ⟨σ', H', J, q⟩ => exact ⟨V.non, H', J.os, J.bare, J.base, J.hok, rfl, q⟩
  | .brk, ⟨_, _, _, q⟩ => exact q.elim
  | .cont, ⟨_, _, _, q⟩ => exact q.elim
end

section
variable {X : Cx} {CX : CXT} {k : Nat} {f : Addr} {fd : FuncData} {ps : List Str} {sp : Sp} {dvs : List V}
  {ds : List Value} {E : XK} {x : Str} {p pos : Pos} {e : Expr} {es : List Expr} {t : TA}
/-- f(e, ..) of such a def -/
theorem callG (F : FnG X.prog X.w X.K X.mg X.base CX k f fd ps sp) (hr : RG k X.A) (hg : Gl X x)
    (hm : X.mg x = some (.ref f)) (hk : PySem.W.keepIn X.K (.ref f) = true) (hb : Binds X.K fd ps ds)
    (hd : Vals dvs ds) (hx : Passes CX X E) (ha : PA X (e :: es) t)
    (hdb : (x == ("__debug__" : Str)) = false := by decide)
    (he : starEach (e :: es) X.env = (false, eval e X.env) :: starEach es X.env := by rfl)
    (hpl : (backTo pos (starEach es X.env)).any (·.1) = false := by rfl) :
    PE X (.Call (.Name x p) (e :: es) [] pos) (tCall sp dvs E t) := by
  constructor
  intro pins s σ H Q I h
  refine wpAny_Call_Name_kw (ld_glob I hg hm ?_ hdb)
  refine PySem.W.callWith_K (h₀ := X.base) I.ok.mod.kin hk ?_ he hpl
  refine thn (ha.run pos pins s σ H _ I h) fun us s1 ⟨vs, H1, I1, r, q⟩ => ⟨I1.kIn, ?_⟩
  have r2 : Vals (vs ++ dvs) (us ++ ds) := r.append hd
  have n2 : (us ++ ds).length = ps.length := r2.length.symm.trans (F.len _ _ _ _ q)
  have run := F.run X.A X.stack s1 H1 ⟨us, []⟩ (us ++ ds) (vs ++ dvs) Q E hr I1.env0 (hb s1 us I1.kIn n2) r2 q
  refine wpAny_call (codeAny_mono run fun res s' hq => ?_)
  match res, hq with
  | .error ee, hq => exact hx pins σ H1 s1 ee s' I1 hq
  | .ok (.ret u), hq => exact I1.after hq
  | .ok .next, hq => exact hq.elim
  | .ok .brk, hq => exact hq.elim
  | .ok .cont, hq => exact hq.elim
end

/-! ### repr of data -/
section
variable {X : Cx}
/-- what repr asks of a datum that stands at v -/
def rRepr (K : PySem.W.Frag) : List V → Hp → VK → Prop := fun xs H Q => ∃ v d, xs = [v] ∧ Dp K H v d ∧
  d.showable = true ∧ d.hasDict = false ∧ d.depth ≤ 60 ∧ d.shown.length ≤ sizeLine ∧ Q (.str d.shown) H
theorem call_reprD (hg : X.A.guards = some []) (hu : X.A.units + 64 < cLine) : CallR X (.builtin "repr") (rRepr X.K) := by
  intro pins s σ H xs us Q I r h
  obtain ⟨v, d, rfl, hd, hs, hn, hdp, hl, q⟩ := h
  obtain ⟨u, rfl, ru⟩ := vals1 r
  cases hd with
  | non => cases ru; exact PySem.P.repr_of_none ⟨.str _, H, I.tok _, ⟨_, rfl⟩, q⟩
  | bl b => cases ru; exact PySem.P.repr_of_bool ⟨.str _, H, I.tok _, ⟨_, rfl⟩, q⟩
  | int i => obtain ⟨t, rfl⟩ := ru; exact PySem.P.repr_of_int (by simpa [PyData.showable] using hs) ⟨.str _, H, I.tok _, ⟨_, rfl⟩, q⟩
  | str x => obtain ⟨t, rfl⟩ := ru; exact PySem.P.repr_of_str ⟨.str _, H, I.tok _, ⟨_, rfl⟩, q⟩ (by simpa [PyData.shown] using hl)
  | lst h1 h2 =>
    cases ru
    obtain ⟨as, rd⟩ := Dp.reads I _ _ _ (Dp.lst h1 h2) rfl
    exact repr_of_reads' rd hs (fun z => by rw [hn] at z; cases z) hg (by omega) (fun _ _ z => z) (fun h' u tk hk => ⟨.str _, H, I.kept hk, ⟨_, rfl⟩, q⟩) hl
  | tup h1 h2 =>
    cases ru
    obtain ⟨as, rd⟩ := Dp.reads I _ _ _ (Dp.tup h1 h2) rfl
    exact repr_of_reads' rd hs (fun z => by rw [hn] at z; cases z) hg (by omega) (fun _ _ z => z) (fun h' u tk hk => ⟨.str _, H, I.kept hk, ⟨_, rfl⟩, q⟩) hl
end
/-! ### the end: the law's call, from a promise of this kind -/
theorem endG {l : PySem.W.OpenLaw} {n k : Nat} {q : Program} {loose : List Str} {XP : (Str → Option Value) → Heap → Prop}
    {YP : World → Heap → Prop} {d : DefRec} {K : Params → PySem.W.Frag} {sp : World → Sp} {x : Str}
    (hn : l.most = some n) (hn2 : n ≤ sizeLine) (hdf : d.params.defaults = []) (hr : RG k callerA)
    (hY : ∀ (w : World) (h : Heap), YP w h → (K w.params).In h)
    (F : ∀ (w : World) (mg : Str → Option Value) (fa : Addr) (h : Heap), (K w.params).In h → h.Ns mainGlobals mg →
      mg d.name = some (.ref fa) → ∃ fd : FuncData, (∀ (s : Shared) (u : Value), BindsTo s fd ⟨[u], []⟩ [(x, u)]) ∧
        ∀ base : Heap, (K w.params).In base → base.Ns mainGlobals mg → FnG l.prog w (K w.params) mg base CX0 k fa fd [x] (sp w))
    (hsp : ∀ (w : World) (H : Hp) (a : Addr) (ns : List Int), ns.length ≤ n → (∀ z ∈ ns, Builtin.Int.intBits z ≤ 1048576) →
      Only H → SqL (K w.params) H a (ns.map V.int) → sp w [.ref a] H (fun v _ => v = .bl true) E0) :
    PySem.W.WalkO q loose XP YP l.row.toRowW d [] (fun f vs => PySem.call f vs) := by
  refine Att.attach_callB hn hdf fun w s₀ s1 mg mb fa o pm cd doc a us ns G Y ho hd hcd hmg obj hints nlen bits gens => ?_
  have inK : (K w.params).In s1.heap := hY w _ Y
  obtain ⟨fd, bind, hF⟩ := F w mg fa _ inK G.T.g hmg
  have rv := vals_ints hints
  have nv : us.length = ns.length := hints.length
  have go : ∀ H : Hp, Only H → SqL (K w.params) H a (ns.map V.int) → HOk l.prog w H s1.heap → (∀ b, H b ≠ none → b = a) →
      (H a ≠ none → (K w.params).lookup a = none) → codeAny (model l.prog w) callerA (.call (.ref fa) ⟨[.ref a], []⟩)
        (fun r s' => r = .ok (.ret (.bool true)) ∧ OldK s1.heap s'.heap ∧ s'.os = s1.os ∧ AllBare s'.gens) s1 := by
    intro H only hS hok atA offK
    have none_or : ∀ b, H b = none ∨ b = a := fun b => by
      cases z : H b with
      | none => exact .inl rfl
      | some u => exact .inr (atA b (by rw [z]; intro y; cases y))
    have left : ∀ {b : Addr} {o : Obj}, s1.heap.get? b = some o → H b = none → (hidT s1.heap H).get? b = some o :=
      fun e z => hidT_get e z
    have notA : ∀ {b : Addr} {o : Obj} {es : Array DictEntry} {ep : Nat},
        s1.heap.get? b = some o → o.data = .dict es ep → H b = none := fun {b o es ep} e z => by
      rcases none_or b with y | rfl
      · exact y
      · rw [obj] at e
        cases e
        cases (show Data.seq us.toArray _ = Data.dict es ep from z)
    have spaces : ∀ {b : Addr} {m : Str → Option Value}, s1.heap.Ns b m → (hidT s1.heap H).Ns b m :=
      fun {b m} ⟨o, es, ep, e, z, r⟩ => ⟨o, es, ep, left e (notA e z), z, r⟩
    have inB : (K w.params).In (hidT s1.heap H) := fun b o e => left (inK b o e) (by
      rcases none_or b with y | rfl
      · exact y
      · cases z : H b with
        | none => rfl
        | some u =>
          rw [offK (by rw [z]; intro y; cases y)] at e
          cases e)
    have md : Mod (K w.params) mg (hidT s1.heap H) := by
      obtain ⟨mc, c1, c2⟩ := G.T.nolimit
      exact ⟨inB, spaces G.T.g, ⟨mb, spaces G.T.b, G.T.builtins⟩, ⟨mc, spaces c1, c2⟩⟩
    have e0 : Env0 l.prog w (K w.params) mg (hidT s1.heap H) callerA [] s1 H :=
      ⟨rfl, md, fun b o e => of_hidT e, Nat.le_of_eq (hidT_size _ _), trivial, fun b z => (nomatch z), hok, .of_eq gens⟩
    have run := (hF _ inB (spaces G.T.g)).run callerA [] s1 H ⟨[.ref a], []⟩ [.ref a] [.ref a] _ _ hr e0
      (bind s1 (.ref a)) (.cons rfl .nil) (hsp w H a ns nlen bits only hS)
    refine codeAny_mono run fun res s' h => ?_
    match res, h with
    | .error e, h => exact h.elim
    | .ok .next, h => exact h.elim
    | .ok .brk, h => exact h.elim
    | .ok .cont, h => exact h.elim
    | .ok (.ret u), ⟨v, H', os, bare, un, hok', r', q⟩ =>
      have q' : v = .bl true := q
      subst q'
      have r2 : u = Value.bool true := r'
      subst r2
      refine ⟨rfl, OldK.of_keep fun b o e => ?_, os, bare⟩
      cases z : H b with
      | none => exact un.keep b o e z (fun y => (nomatch y)) (fun y => (nomatch y))
      | some u =>
        rcases only b with y | ⟨ob, xs, y⟩
        · rw [z] at y
          cases y
        · obtain ⟨e1, _⟩ := hok b _ y
          obtain ⟨e2, _⟩ := hok' b _ (un.frzs b ob _ y)
          rw [e] at e1
          cases e1
          exact e2
  have small : ns.length ≤ sizeLine := Nat.le_trans nlen hn2
  cases hk : (K w.params).lookup a with
  | some o =>
    have e := inK a o hk
    rw [obj] at e
    cases e
    refine go (fun _ => none) (fun _ => .inl rfl) (.inr ⟨_, us.toArray, _, hk, rfl, rfl, rfl, ?_, by simpa using rv⟩)
      (fun b u z => nomatch z) (fun b z => absurd rfl z) fun z => absurd rfl z
    rw [List.size_toArray, nv]
    exact small
  | none =>
    let ob : Obj := { cls := .type "list", data := .seq us.toArray }
    have at_ : ∀ b, (fun c => if c = a then some (HO.frz ob (.lst (ns.map V.int))) else none : Hp) b ≠ none → b = a := fun b z => by
      by_cases y : b = a
      · exact y
      · exact absurd (if_neg y) z
    refine go (fun c => if c = a then some (.frz ob (.lst (ns.map V.int))) else none) (fun b => ?_) (.inl (.inr ⟨ob, if_pos rfl⟩))
      (fun b u z => ?_) at_ fun _ => hk
    · by_cases y : b = a
      · exact .inr ⟨_, _, if_pos y⟩
      · exact .inl (if_neg y)
    · obtain rfl := at_ b (by rw [z]; intro y; cases y)
      have z' := (if_pos rfl).symm.trans z
      cases z'
      exact ⟨obj, by rw [List.length_map]; exact small, us, _, rv, obj⟩
end Cl

namespace Cl
open PySem PySem.Spec PyProof.Rows L2
/-- what stood there stands there; a code object's table may have grown -/
def Keep (x : Option HO) (o : HO) : Prop := match o with
  | .tbl ps => TriplesOk ps.toList → ∃ ps' : Array Value, x = some (.tbl ps') ∧ TriplesOk ps'.toList
  | o => x = some o
theorem Keep.of {x : Option HO} {o : HO} (h : x = some o) : Keep x o := by
  cases o <;> first | exact h | exact fun t => ⟨_, h, t⟩
def Same (H H' : Hp) : Prop := ∀ b o, H b = some o → Keep (H' b) o
theorem Same.refl (H : Hp) : Same H H := fun _ _ e => .of e
theorem Same.trans {H H1 H2 : Hp} (a : Same H H1) (b : Same H1 H2) : Same H H2 := fun c o h => by
  have k := a c o h
  cases o with
  | tbl ps => exact fun t => let ⟨ps1, e1, t1⟩ := k t; b c (.tbl ps1) e1 t1
  | _ => exact b c _ k
theorem Same.upN {H H' : Hp} {p : Addr} {o : HO} (s : Same H H') (h : H p = none) : Same H (upd H' p o) := fun b x e => by
  rw [upd_ne (ne_of_none e h)]
  exact s b x e
theorem same_new {H : Hp} {p : Addr} {o : HO} (h : H p = none) : Same H (upd H p o) := (Same.refl H).upN h
/-- what is handed on where a new object stands at its place -/
def New (H : Hp) (o : HO) (Q : VK) : Prop := ∀ p H', H p = none → Same H H' → H' p = some o → Q (.ref p) H'
theorem New.go {H : Hp} {o : HO} {Q : VK} (h : New H o Q) : ∀ p, H p = none → Q (.ref p) (upd H p o) :=
  fun p n => h p _ n (same_new n) upd_same
section
variable {X : Cx} {e : Expr} {te : TE}
theorem valsRev : ∀ {xs : List V} {us : List Value}, Vals xs us → Vals xs.reverse us.reverse
  | _, _, .nil => .nil
  | _, _, .cons r t => by
    rw [List.reverse_cons, List.reverse_cons]
    exact (valsRev t).append (.cons r .nil)
/-- xs[::-1] of a list -/
def tRevL (K : PySem.W.Frag) (te : TE) : TE := fun σ H Q => te σ H fun x H1 => ∃ a xs, x = .ref a ∧ SqL K H1 a xs ∧ New H1 (.lst xs.reverse) Q
theorem pe_revL {p0 p1 p2 pos : Pos} {j : Nat} (he : PE X e te) :
    PE X (.Subscript e (.Slice none none (some (.UnaryOp .USub (.Constant (.int 1) j p0) p1)) p2) pos) (tRevL X.K te) := by
  constructor
  intro pins s σ H Q I h
  refine Subscript_ (thn (he.run pins s σ H _ I h) fun v s1 ⟨x, H1, I1, r1, a, xs, hx, hl, q⟩ => ?_)
  subst hx
  cases r1
  refine wpAny_Slice ?_
  rw [evalPart_none]
  refine wpAny_pure ?_
  refine wpAny_pure ?_
  rw [evalPart_some]
  have hneg : PE X (.UnaryOp .USub (.Constant (.int 1) j p0) p1) _ := pe_un un_neg pe_int
  refine thn (hneg.run pins s1 σ H1 (fun y H2 => y = .int (-1) ∧ H2 = H1) I1 ⟨1, rfl, rfl, rfl⟩) fun u s2 ⟨y, H2, I2, ry, hy, hH⟩ => ?_
  subst hy hH
  obtain ⟨t, rfl⟩ := ry
  obtain ⟨its, r, ht, hz⟩ := I2.list hl
  have I4 : Inv X pins σ H2 { s2 with heap := s2.heap.push { cls := .type "slice", data := .fields #[.none, .none, .int (-1) t] } } :=
    I2.kept (t' := s2.toks) fun b ob q => Heap.get?_push_of_some _ q
  obtain ⟨its, r, ht, hz⟩ := I4.list hl
  have hlen := r.length
  refine tail_any ht.isList.typeIs slot_list_getitem.lookup ?_ (by with_unfolding_all rfl)
  refine wpAny_getItem_list_slice ht.isList (Heap.IsSliceOf.new ..) .none .none (.int (-1) t) (by decide) ?_ (by rw [List.size_toArray] <;> omega)
  rw [PySem.W.krv_pick]
  refine ⟨.ref _, _, I4.laid (t' := s2.toks) (o := .lst xs.reverse) (fun b ob q => Heap.get?_push_of_some _ q) (Nat.le_refl _) ?_, rfl, q.go _ (I4.hok.fresh (Nat.le_refl _))⟩
  exact ⟨by rw [List.length_reverse]; exact hz, _, 0, valsRev r, Heap.get?_push_size _ rfl⟩
end
end Cl

namespace Cl
open PySem PySem.Spec PyProof.Rows L2

/-! ### a def of the text, with its promise -/
structure Def (P : Program) (w : World) (K : PySem.W.Frag) (mg : Str → Option Value) (base : Heap)
    (k : Nat) (x : Str) (ps : List Str) (sp : Sp) : Prop where
  ex : ∃ f fd, FnG P w K mg base CX0 k f fd ps sp ∧ mg x = some (.ref f) ∧
    PySem.W.keepIn K (.ref f) = true ∧ Binds K fd ps []
section
variable {X : Cx} {k : Nat} {ps : List Str} {sp : Sp} {x : Str} {p pos : Pos} {e : Expr} {es : List Expr} {t : TA}
theorem callD (D : Def X.prog X.w X.K X.mg X.base k x ps sp) (hr : RG k X.A) (ha : PA X (e :: es) t)
    (hg : Gl X x := by rfl) (hdb : (x == ("__debug__" : Str)) = false := by decide)
    (he : starEach (e :: es) X.env = (false, eval e X.env) :: starEach es X.env := by rfl)
    (hpl : (backTo pos (starEach es X.env)).any (·.1) = false := by rfl) :
    PE X (.Call (.Name x p) (e :: es) [] pos) (tCall sp [] E0 t) := by
  obtain ⟨f, fd, F, hm, hk, hb⟩ := D.ex
  exact callG F hr hg hm hk hb .nil pass0 ha hdb he hpl
end
section
variable {P : Program} {w : World} {K : PySem.W.Frag} {mg : Str → Option Value} {base : Heap}
theorem Def.mk1 {k : Nat} {x qual : Str} {st : Stmt} {f : Addr} {fd : FuncData} {ps : List Str} {sp : Sp}
    (F : Fun K x qual st f fd) (G : FnG P w K mg base CX0 k f fd ps sp) (hm : mg x = some (.ref f))
    (b : Binds K fd ps []) : Def P w K mg base k x ps sp := ⟨f, fd, G, hm, F.kp, b⟩
end

/-! ### heaps -/
theorem Same.rfl' {H : Hp} : Same H H := .refl H
/-! ### rules that hand on a heap in which a new object stands -/
section
variable {X : Cx} {es : List Expr} {e : Expr} {t : TA} {te : TE} {pos : Pos}
def tTupN (t : TA) : TE := fun σ H Q => t σ H fun xs H1 => xs.length ≤ sizeLine ∧ New H1 (.tup xs) Q
def tLstN (t : TA) : TE := fun σ H Q => t σ H fun xs H1 => xs.length ≤ sizeLine ∧ New H1 (.lst xs) Q
theorem tupN {j} (h : PA X es t) : PE X (.Tuple es j pos) (tTupN t) := by
  constructor
  intro pins s σ H Q I hq
  refine wpAny_Tuple_spliced ?_
  refine thn (h.run pos pins s σ H _ I hq) fun us s1 ⟨xs, H1, I1, r, z, q⟩ => ⟨by rw [← r.length]; exact z, ?_⟩
  refine ⟨.ref s1.heap.objs.size, _, I1.laid (t' := s1.toks) (o := .tup xs) (fun b u e => Heap.get?_push_of_some _ e) (Nat.le_refl _) ?_, rfl,
    q.go _ (I1.hok.fresh (Nat.le_refl _))⟩
  exact ⟨z, us, r, ⟨_, Heap.get?_push_size _ rfl, rfl, _, rfl⟩⟩
theorem lstN (h : PA X es t) : PE X (.List es pos) (tLstN t) := by
  constructor
  intro pins s σ H Q I hq
  refine wpAny_List_spliced ?_
  refine thn (h.run pos pins s σ H _ I hq) fun us s1 ⟨xs, H1, I1, r, z, q⟩ => ⟨by rw [← r.length]; exact z, ?_⟩
  refine ⟨.ref s1.heap.objs.size, _, I1.laid (t' := s1.toks) (o := .lst xs) (fun b u e => Heap.get?_push_of_some _ e) (Nat.le_refl _) ?_, rfl,
    q.go _ (I1.hok.fresh (Nat.le_refl _))⟩
  exact ⟨z, us, 0, r, Heap.get?_push_size _ rfl⟩
def rSlLN (K : PySem.W.Frag) : V → Option Int → Option Int → Hp → VK → Prop := fun x lo hi H Q =>
  ∃ a xs, x = .ref a ∧ SqL K H a xs ∧ New H (.lst (cutV xs lo hi)) Q
theorem sl_listN : SlR X (rSlLN X.K) := fun pins s σ H x v vl vu lo hi sl Q I rx hs pl pu ⟨a, xs, h1, h2, q⟩ =>
  sl_list pins s σ H x v vl vu lo hi sl Q I rx hs pl pu ⟨a, xs, h1, h2, q.go⟩
def rSlTN (K : PySem.W.Frag) : V → Option Int → Option Int → Hp → VK → Prop := fun x lo hi H Q =>
  ∃ a xs, x = .ref a ∧ SqT K H a xs ∧ ¬ (HT.sIx xs.length 0 lo = 0 ∧ HT.sIx xs.length xs.length hi = xs.length) ∧ New H (.tup (cutV xs lo hi)) Q
theorem sl_tupN : SlR X (rSlTN X.K) := fun pins s σ H x v vl vu lo hi sl Q I rx hs pl pu ⟨a, xs, h1, h2, h3, q⟩ =>
  sl_tup pins s σ H x v vl vu lo hi sl Q I rx hs pl pu ⟨a, xs, h1, h2, h3, q.go⟩
theorem call_list_ofN : CallR X (.type "list") (fun xs H Q => ∃ p ys, xs = [.ref p] ∧ (SqL X.K H p ys ∨ SqT X.K H p ys) ∧ New H (.lst ys) Q) :=
  fun pins s σ H xs us Q I r ⟨p, ys, h1, h2, q⟩ => call_list_of pins s σ H xs us Q I r ⟨p, ys, h1, h2, q.go⟩
end
/-! ### cuts: what stands between two statements, or behind a part, by a word of one's own -/
section
variable {X : Cx} {st : Stmt} {rest : List Stmt} {t u : TS} {e : Expr} {te : TE} {tt : TT}
def tCut (t u : TS) : TS := fun D σ H => ∃ M : L2.St → Hp → Prop, t { D with nx := M } σ H ∧ ∀ σ' H', M σ' H' → u D σ' H'
theorem cutS (h1 : PS X st t) (h2 : PSs X rest u) : PSs X (st :: rest) (tCut t u) := by
  constructor
  rintro pins s σ H D I ⟨M, h, k⟩
  refine wpAny_execs_cons (thn (h1.run pins s σ H _ I h) fun f s1 q => ?_)
  match f, q with
  | .next, ⟨σ', H', I', q⟩ => exact h2.run pins s1 σ' H' D I' (k _ _ q)
  | .ret v, q => exact q
  | .brk, q => exact q
  | .cont, q => exact q
def tMid (te : TE) : TE := fun σ H Q => ∃ M : VK, te σ H M ∧ ∀ v H', M v H' → Q v H'
theorem cutE (h : PE X e te) : PE X e (tMid te) := ⟨fun pins s σ H Q I ⟨M, h1, k⟩ =>
  thn (h.run pins s σ H M I h1) fun v s1 ⟨x, H1, I1, r1, q1⟩ => ⟨x, H1, I1, r1, k _ _ q1⟩⟩
def tMidT (tt : TT) : TT := fun σ H Q => ∃ M : Bool → Hp → Prop, tt σ H M ∧ ∀ b H', M b H' → Q b H'
theorem cutT (h : PT X e tt) : PT X e (tMidT tt) := ⟨fun pins s σ H Q I ⟨M, h1, k⟩ =>
  thn (h.run pins s σ H M I h1) fun b s1 ⟨H1, I1, q1⟩ => ⟨H1, I1, k _ _ q1⟩⟩
end
def lcL {K : PySem.W.Frag} {a : Addr} {xs : List V} {g : TG} {tt : TT} {te : TE} {vs : List Nat} {σ : L2.St} {H1 : Hp} {D : Addr} {Qd : Hp → Prop}
    (Pv : Nat → Hp → Prop) (hD : H1 D = none) (h0 : ∀ H', Same H1 H' → H' D = some (.lst []) → Pv 0 H') (hl : ∀ i H, i ≤ xs.length → Pv i H → SqL K H a xs)
    (hs : ∀ i x H, xs[i]? = some x → Pv i H → g x (wipe σ vs) H fun σ2 H2 => wipe σ2 vs = wipe σ vs ∧ tt σ2 H2 fun b H3 =>
      if b = true then te σ2 H3 fun y H4 => ∃ acc, H4 D = some (.lst acc) ∧ acc.length < sizeLine ∧ Pv (i + 1) (upd H4 D (.lst (acc ++ [y]))) else Pv (i + 1) H3)
    (hd : ∀ H, Pv xs.length H → Qd H) :=
  lc_list (K := K) (a := a) (xs := xs) (g := g) (tt := tt) (te := te) (vs := vs) (σ := σ) (H1 := H1) (D := D) (Qd := Qd) Pv (h0 _ (same_new hD) upd_same) hl hs hd
def lcT {K : PySem.W.Frag} {a : Addr} {xs : List V} {g : TG} {tt : TT} {te : TE} {vs : List Nat} {σ : L2.St} {H1 : Hp} {D : Addr} {Qd : Hp → Prop}
    (Pv : Nat → Hp → Prop) (hD : H1 D = none) (h0 : ∀ H', Same H1 H' → H' D = some (.lst []) → Pv 0 H') (hl : ∀ i H, i ≤ xs.length → Pv i H → SqT K H a xs)
    (hs : ∀ i x H, xs[i]? = some x → Pv i H → g x (wipe σ vs) H fun σ2 H2 => wipe σ2 vs = wipe σ vs ∧ tt σ2 H2 fun b H3 =>
      if b = true then te σ2 H3 fun y H4 => ∃ acc, H4 D = some (.lst acc) ∧ acc.length < sizeLine ∧ Pv (i + 1) (upd H4 D (.lst (acc ++ [y]))) else Pv (i + 1) H3)
    (hd : ∀ H, Pv xs.length H → Qd H) :=
  lc_tup (K := K) (a := a) (xs := xs) (g := g) (tt := tt) (te := te) (vs := vs) (σ := σ) (H1 := H1) (D := D) (Qd := Qd) Pv (h0 _ (same_new hD) upd_same) hl hs hd
/-- the heap without the deck -/
def hide (d l : Addr) (H : Hp) : Hp := fun b => if b = d ∨ b = l then none else H b
theorem hide_at {d l b : Addr} {H : Hp} {o : HO} (h : hide d l H b = some o) : b ≠ d ∧ b ≠ l ∧ H b = some o := by
  unfold hide at h
  split at h
  · cases h
  · rename_i n
    exact ⟨fun e => n (.inl e), fun e => n (.inr e), h⟩
theorem hide_ne {d l b : Addr} {H : Hp} (h1 : b ≠ d) (h2 : b ≠ l) : hide d l H b = H b := by
  unfold hide
  rw [if_neg]
  rintro (e | e)
  · exact h1 e
  · exact h2 e
/-- the deck stands: a list of the script's rest, its number, its count -/
structure Deck (H : Hp) (d l : Addr) : Prop where
  ne : d ≠ l
  ex : ∃ (ns : List Int) (s c : Int), H d = some (.lst [.ref l, .int s, .int c]) ∧ H l = some (.lst (ns.map V.int)) ∧ ns.length ≤ 63
/-- the deck still stands, and all else that stood stands -/
structure Step (d l : Addr) (H H' : Hp) : Prop where
  deck : Deck H' d l
  same : Same (hide d l H) (hide d l H')
section
variable {d l p a : Addr} {H H' H2 : Hp} {o : HO} {K : PySem.W.Frag} {xs : List V}
theorem Deck.nd (D : Deck H d l) (h : H p = none) : p ≠ d ∧ p ≠ l := by
  obtain ⟨ns, s, c, h1, h2, _⟩ := D.ex
  exact ⟨(ne_of_none h1 h).symm, (ne_of_none h2 h).symm⟩
theorem Step.refl (D : Deck H d l) : Step d l H H := ⟨D, .refl _⟩
theorem Step.trans (A : Step d l H H') (B : Step d l H' H2) : Step d l H H2 := ⟨B.deck, A.same.trans B.same⟩
theorem Same.hide (S : Same H H') : Same (Cl.hide d l H) (Cl.hide d l H') := fun b x e => by
  obtain ⟨e1, e2, e3⟩ := hide_at e
  rw [hide_ne e1 e2]
  exact S b x e3
theorem Step.of (D : Deck H d l) (S : Same H H') : Step d l H H' := by
  obtain ⟨ns, s, c, h1, h2, h3⟩ := D.ex
  exact ⟨⟨D.ne, ns, s, c, S _ _ h1, S _ _ h2, h3⟩, S.hide⟩
theorem Step.new (D : Deck H d l) (h : H p = none) : Step d l H (upd H p o) := Step.of D (same_new h)
/-- a new object ahead of a step is there behind it -/
theorem Step.at (S : Step d l H H') (h1 : p ≠ d) (h2 : p ≠ l) (h : H p = some o) : Keep (H' p) o := by
  have e := S.same p o (by rw [hide_ne h1 h2]; exact h)
  rw [hide_ne h1 h2] at e
  exact e
theorem Step.tupH (S : Step d l H H') (D : Deck H d l) (h : H p = some (.tup xs)) : H' p = some (.tup xs) := by
  obtain ⟨ns, s, c, h1, h2, h3⟩ := D.ex
  exact S.at (ne_of h h1 (by intro z; cases z)) (ne_of h h2 (by intro z; cases z)) h
end
theorem dropLast_map (ns : List Int) : (ns.map V.int).dropLast = ns.dropLast.map V.int := by
  rw [List.map_dropLast]

/-! ### promises of the deck's defs -/
def spDeck (K : PySem.W.Frag) : Sp := fun vs H Q _ => ∃ (a : Addr) (ns : List Int), vs = [.ref a] ∧ SqL K H a (ns.map V.int) ∧ ns.length ≤ 63 ∧
  ∀ d l H', Same H H' → Deck H' d l → Q (.ref d) H'
def spDraw : Sp := fun vs H Q _ => ∃ (d l : Addr) (m : Int), vs = [.ref d, .int m] ∧ 0 < m ∧ m < 2 ^ 64 ∧ Deck H d l ∧
  ∀ v H', 0 ≤ v → v < m → Step d l H H' → Q (.int v) H'
theorem mulc {a b : Int} (h : -(2 ^ 64) < a ∧ a < 2 ^ 64) : CMul a b := .inl h
theorem mulr {a b : Int} (h : -(2 ^ 64) < b ∧ b < 2 ^ 64) : CMul a b := .inr h
theorem modlt {a m : Int} (h : 0 < m) (h2 : m ≤ 2 ^ 64) : -(2 ^ 64) < a % m ∧ a % m < 2 ^ 64 := by
  have := Int.emod_nonneg a (show m ≠ 0 by omega)
  have := Int.emod_lt_of_pos a h
  omega
theorem shapedInts (ns : List Int) : SeqAt.shaped (.list (ns.map PyData.int)) = true := by
  have h1 : ∀ ns : List Int, PyData.canLayAll0 (ns.map PyData.int) = true := by
    intro ns
    induction ns with
    | nil => rfl
    | cons n r ih => simp [PyData.canLayAll0, PyData.canLay0, ih]
  have h2 : ∀ ns : List Int, PyData.depthAll (ns.map PyData.int) = 0 := by
    intro ns
    induction ns with
    | nil => rfl
    | cons n r ih => simp [PyData.depthAll, PyData.depth, ih]
  simp [SeqAt.shaped, PyData.canLay0, PyData.depth, h1, h2]
theorem dpInts {K : PySem.W.Frag} {H : Hp} : ∀ ns : List Int, DpAll K H (ns.map V.int) (ns.map PyData.int)
  | [] => .nil
  | n :: r => .cons (.int n) (dpInts r)
theorem eqvNil (ns : List Int) : PyData.eqv (.list (ns.map PyData.int)) (.list []) = ns.isEmpty := by
  cases ns <;> simp [PyData.eqv, PyData.eqvAll]

/-! ### data whose repr is short -/
structure Fine (d : PyData) : Prop where
  lv : d.leavesShort 200 = true
  sh : d.showable = true
  nd : d.hasDict = false
  dp : d.depth ≤ 60
  bk : d.bulk ≤ 80000
def okI (i : Int) : Prop := i.natAbs < 2 ^ 190
theorem okI.log {i : Int} (h : okI i) : i.natAbs.log2 < 190 := PySem.Flt.log2_lt_of (by decide) h
theorem okI.len {i : Int} (h : okI i) : (PyData.shown (.int i)).length ≤ 200 := by
  have e := int_text_length_le (k := 190) (by decide) h.log
  show (Str.ofString (toString i)).length ≤ 200
  rw [PySem.ofString_length]
  omega
theorem okI.of {i : Int} (h1 : -(2 ^ 189) < i) (h2 : i < 2 ^ 189) : okI i := by
  unfold okI
  omega
def rReprF (K : PySem.W.Frag) : List V → Hp → VK → Prop := fun xs H Q => ∃ v d, xs = [v] ∧ Dp K H v d ∧ Fine d ∧ Q (.str d.shown) H
theorem call_repr {X : Cx} (hg : X.A.guards = some []) (hu : X.A.units + 64 < cLine) : CallR X (.builtin "repr") (rReprF X.K) :=
  fun pins s σ H xs us Q I r ⟨v, d, h1, h2, f, q⟩ => call_reprD hg hu pins s σ H xs us Q I r ⟨v, d, h1, h2, f.sh, f.nd, f.dp, by
    have e := PyData.shown_le_bulk 200 (by decide) d f.lv
    have e2 := f.bk
    have e3 : sizeLine = 16777216 := by decide
    omega, q⟩
theorem fineInts2 {i j : Int} (h1 : okI i) (h2 : okI j) : Fine (.tuple [.int i, .int j]) := by
  have a1 := h1.len
  have a2 := h2.len
  have b1 : i.natAbs.log2 < 1920 := by have := h1.log; omega
  have b2 : j.natAbs.log2 < 1920 := by have := h2.log; omega
  constructor
  · simp [PyData.leavesShort, PyData.leavesShortAll, a1, a2]
  · simp [PyData.showable, PyData.showableAll, b1, b2]
  · rfl
  · simp [PyData.depth, PyData.depthAll]
  · simp [PyData.bulk, PyData.bulkAll]
theorem fineBool (b : Bool) : Fine (.bool b) := by constructor <;> first | rfl | (cases b <;> decide)
end Cl

namespace Cl
open PySem PySem.Spec PyProof.Rows L2
/-! ### the nearest whole number -/
def nr (n d : Int) : Int := (2 * n + d) / (2 * d)
theorem nr_law {n g : Int} (h : 0 < g) : nr n g = if 2 * n < (2 * (n / g) + 1) * g then n / g else n / g + 1 := by
  have e1 := Int.mul_ediv_add_emod n g
  have e2 := Int.emod_nonneg n (show g ≠ 0 by omega)
  have e3 := Int.emod_lt_of_pos n h
  generalize n / g = k at *
  generalize n % g = r at *
  subst e1
  unfold nr
  have c1 : (2 * k + 1) * g = 2 * (g * k) + g := by rw [Int.add_mul, Int.mul_assoc, Int.mul_comm k g]; omega
  have c2 : 2 * (g * k + r) + g = (2 * r + g) + (2 * g) * k := by rw [Int.mul_assoc 2 g k]; omega
  rw [c1, c2, Int.add_mul_ediv_left _ _ (show 2 * g ≠ 0 by omega)]
  split
  · rw [Int.ediv_eq_zero_of_lt (by omega) (by omega)]; omega
  · have c3 : 2 * r + g = (2 * r - g) + (2 * g) * 1 := by omega
    rw [c3, Int.add_mul_ediv_left _ _ (show 2 * g ≠ 0 by omega), Int.ediv_eq_zero_of_lt (by omega) (by omega)]; omega
theorem nr_move {n d g : Int} (h : 0 < g) : nr (n + d * g) g = nr n g + d := by
  unfold nr
  have c : 2 * (n + d * g) + g = (2 * n + g) + (2 * g) * d := by
    rw [Int.mul_add, Int.mul_assoc 2 g d, Int.mul_comm d g]; omega
  rw [c, Int.add_mul_ediv_left _ _ (show 2 * g ≠ 0 by omega)]
theorem nr_times {n g t : Int} (ht : 0 < t) : nr (n * t) (g * t) = nr n g := by
  unfold nr
  have c1 : 2 * (n * t) + g * t = (2 * n + g) * t := by rw [Int.add_mul, Int.mul_assoc]
  have c2 : 2 * (g * t) = (2 * g) * t := by rw [Int.mul_assoc]
  rw [c1, c2, Int.mul_ediv_mul_of_pos_left _ _ ht]
theorem nr_ok {n g B : Int} (h : 0 < g) (h1 : -B < n) (h2 : n < B) (hB : 0 < B) : -(B + 1) ≤ nr n g ∧ nr n g ≤ B + 1 := by
  unfold nr
  have hg : 0 < 2 * g := by omega
  constructor
  · refine Int.le_ediv_of_mul_le hg ?_
    have : B * 1 ≤ B * g := Int.mul_le_mul_of_nonneg_left (by omega) (by omega)
    have e : -(B + 1) * (2 * g) = -(2 * (B * g)) - 2 * g := by rw [Int.neg_mul, Int.add_mul, Int.mul_left_comm B 2 g]; omega
    rw [e]; omega
  · refine Int.ediv_le_of_le_mul hg ?_
    have : B * 1 ≤ B * g := Int.mul_le_mul_of_nonneg_left (by omega) (by omega)
    have e : (B + 1) * (2 * g) = 2 * (B * g) + 2 * g := by rw [Int.add_mul, Int.mul_left_comm B 2 g]; omega
    rw [e]; omega
def spNear : Sp := fun vs H Q _ => ∃ n d : Int, vs = [.int n, .int d] ∧ 0 < d ∧ d < 2 ^ 60 ∧ Q (.int (nr n d)) H
def spCorner (K : PySem.W.Frag) : Sp := fun vs H Q _ => ∃ (g : Int) (a : Addr) (x y : Int), vs = [.int g, .ref a] ∧ SqT K H a [.int x, .int y] ∧ 0 < g ∧ g < 2 ^ 60 ∧
  New H (.tup [.int (nr x g), .int (nr y g)]) Q

def spLaw (K : PySem.W.Frag) : Sp := fun vs H Q _ => ∃ (a : Addr) (ns : List Int), vs = [.ref a] ∧ SqL K H a (ns.map V.int) ∧ ns.length ≤ 63 ∧ ∀ H', Q (.bl true) H'
section
variable {X : Cx}
def CDivX (_ j : Int) : Prop := j ≠ 0 ∧ j.natAbs.log2 < 9000
theorem op_fdivX : OpR X (binaryOp .FloorDiv) (rI CDivX fun i j => .int (i.fdiv j)) :=
  opI fun i j _ _ _ _ _ hc q => floordiv_int hc.1 q (.inl (PyProof.noPylong_of_log2 hc.2))
end
/-! ### the greatest number that parts -/
def spGp : Sp := fun vs H Q _ => ∃ n m : Int, vs = [.int n, .int m] ∧ Q (.int (Int.gcd n m : Nat)) H
def gpar (n m d : Int) : Int := (Int.gcd (Int.gcd n m : Nat) d : Nat)
def spP (n m d : Int) : Int := if d < 0 then -gpar n m d else gpar n m d
def spSpotOf : Sp := fun vs H Q _ => ∃ n m d : Int, vs = [.int n, .int m, .int d] ∧ d ≠ 0 ∧ d.natAbs < 2 ^ 200 ∧
  New H (.tup [.int (n / spP n m d), .int (m / spP n m d), .int (d / spP n m d)]) Q
theorem gpar_dvd (n m d : Int) : gpar n m d ∣ n ∧ gpar n m d ∣ m ∧ gpar n m d ∣ d := by
  unfold gpar
  have h1 : (Int.gcd (Int.gcd n m : Nat) d : Int) ∣ (Int.gcd n m : Nat) := Int.gcd_dvd_left ..
  refine ⟨Int.dvd_trans h1 (Int.gcd_dvd_left ..), Int.dvd_trans h1 (Int.gcd_dvd_right ..), Int.gcd_dvd_right ..⟩
theorem gpar_pos {n m d : Int} (h : d ≠ 0) : 0 < gpar n m d := by
  unfold gpar
  have : 0 < Int.gcd (Int.gcd n m : Nat) d := Int.gcd_pos_of_ne_zero_right _ h
  omega
theorem gpar_le {n m d : Int} (h : d ≠ 0) : gpar n m d ≤ d.natAbs := by
  have := (gpar_dvd n m d).2.2
  have h2 : gpar n m d ∣ (d.natAbs : Int) := Int.dvd_natAbs.mpr this
  exact Int.le_of_dvd (by omega) h2
theorem spP_dvd (n m d : Int) : spP n m d ∣ n ∧ spP n m d ∣ m ∧ spP n m d ∣ d := by
  obtain ⟨h1, h2, h3⟩ := gpar_dvd n m d
  unfold spP
  split
  · exact ⟨Int.neg_dvd.mpr h1, Int.neg_dvd.mpr h2, Int.neg_dvd.mpr h3⟩
  · exact ⟨h1, h2, h3⟩
theorem spP_ne {n m d : Int} (h : d ≠ 0) : spP n m d ≠ 0 := by
  have := gpar_pos (n := n) (m := m) h
  unfold spP
  split <;> omega
/-- the spot of d above nought: some part that all three have, taken out -/
theorem spot_pos {n m d : Int} (h : 0 < d) : ∃ p : Int, 0 < p ∧ n = n / spP n m d * p ∧ m = m / spP n m d * p ∧ d = d / spP n m d * p ∧ 0 < d / spP n m d ∧ d / spP n m d ≤ d := by
  obtain ⟨h1, h2, h3⟩ := gpar_dvd n m d
  have h0 := gpar_pos (n := n) (m := m) (d := d) (by omega)
  have e : spP n m d = gpar n m d := if_neg (by omega)
  rw [e]
  have e3 := Int.ediv_mul_cancel h3
  refine ⟨gpar n m d, h0, (Int.ediv_mul_cancel h1).symm, (Int.ediv_mul_cancel h2).symm, e3.symm, ?_, Int.ediv_le_self _ (by omega)⟩
  exact Int.ediv_pos_of_pos_of_dvd h (by omega) h3
theorem nr_spot {n m d g : Int} (h : 0 < d) : nr (n / spP n m d) (d / spP n m d * g) = nr n (d * g) ∧ nr (m / spP n m d) (d / spP n m d * g) = nr m (d * g) := by
  obtain ⟨p, hp, e1, e2, e3, _⟩ := spot_pos (n := n) (m := m) h
  have c : d * g = d / spP n m d * g * p := by
    conv => lhs; rw [e3]
    rw [Int.mul_assoc, Int.mul_assoc, Int.mul_comm p g]
  have k1 := nr_times (n := n / spP n m d) (g := d / spP n m d * g) hp
  have k2 := nr_times (n := m / spP n m d) (g := d / spP n m d * g) hp
  rw [← e1, ← c] at k1
  rw [← e2, ← c] at k2
  exact ⟨k1.symm, k2.symm⟩
theorem nr_lies {n g : Int} (h : 0 < g) : (2 * nr n g - 1) * g ≤ 2 * n ∧ 2 * n < (2 * nr n g + 1) * g := by
  unfold nr
  have e1 := Int.mul_ediv_add_emod (2 * n + g) (2 * g)
  have e2 := Int.emod_nonneg (2 * n + g) (show 2 * g ≠ 0 by omega)
  have e3 := Int.emod_lt_of_pos (2 * n + g) (show 0 < 2 * g by omega)
  generalize (2 * n + g) / (2 * g) = k at *
  generalize (2 * n + g) % (2 * g) = r at *
  have c1 : (2 * k - 1) * g = 2 * g * k - g := by rw [Int.sub_mul, Int.mul_right_comm]; omega
  have c2 : (2 * k + 1) * g = 2 * g * k + g := by rw [Int.add_mul, Int.mul_right_comm]; omega
  omega
end Cl

namespace Cl
open PySem PySem.Spec PyProof.Rows L2
/-! ### kinds of things -/
def isI : V → Bool
  | .int _ => true
  | _ => false
def isB : V → Bool
  | .bl _ => true
  | _ => false
/-- a thing with the name of its class -/
inductive Kd (K : PySem.W.Frag) (H : Hp) : V → String → Prop where
  | non : Kd K H .non "NoneType"
  | bl (b : Bool) : Kd K H (.bl b) "bool"
  | int (i : Int) : Kd K H (.int i) "int"
  | str (x : Str) : Kd K H (.str x) "str"
  | lst {a : Addr} {xs : List V} (h : SqL K H a xs) : Kd K H (.ref a) "list"
  | tup {a : Addr} {xs : List V} (h : SqT K H a xs) : Kd K H (.ref a) "tuple"
  | dct {a : Addr} {kvs : List (Key × V)} (h : H a = some (.dK kvs)) : Kd K H (.ref a) "dict"
section
variable {K : PySem.W.Frag} {H : Hp} {v : V} {T : String}
theorem Kd.ty (h : Kd K H v T) : TyX K H v (.type T) := by
  cases h with
  | non => exact .base .non
  | bl b => exact .base (.bl b)
  | int i => exact .base (.int i)
  | str x => exact .base (.str x)
  | lst h =>
    rcases h with (h | ⟨o, h⟩) | ⟨o, its, n, h1, h2, _⟩
    · exact .base (.lst h)
    · exact .base (.frz h)
    · exact .kList h1 h2
  | tup h =>
    rcases h with (h | ⟨o, h⟩) | ⟨o, its, n, h1, h2, _⟩
    · exact .base (.tup h)
    · exact .fTuple h
    · exact .kTuple h1 h2
  | dct h => exact .base (.dK h)
theorem Kd.int? (h : Kd K H v T) : kitB T "int" = some (isI v || isB v) := by
  cases h <;> first | (show kitB _ _ = some true; decide +kernel) | (show kitB _ _ = some false; decide +kernel)
theorem Kd.bool? (h : Kd K H v T) : kitB T "bool" = some (isB v) := by
  cases h <;> first | (show kitB _ _ = some true; decide +kernel) | (show kitB _ _ = some false; decide +kernel)
theorem Kd.tuple? (h : Kd K H v T) : kitB T "tuple" = some (decide (T = "tuple")) := by
  cases h <;> first | (show kitB _ _ = some true; decide +kernel) | (show kitB _ _ = some false; decide +kernel)
theorem Kd.str? (h : Kd K H v T) : kitB T "str" = some (decide (T = "str")) := by
  cases h <;> first | (show kitB _ _ = some true; decide +kernel) | (show kitB _ _ = some false; decide +kernel)
end
theorem seT {K : PySem.W.Frag} {H H' : Hp} {a : Addr} {xs : List V} (e : Same H H') (h : SqT K H a xs) : SqT K H' a xs := by
  rcases h with (h | ⟨o, h⟩) | h
  · exact .inl (.inl (e _ _ h))
  · exact .inl (.inr ⟨o, e _ _ h⟩)
  · exact .inr h
/-- isinstance(thing, a built-in class) -/
theorem isi {K : PySem.W.Frag} {H : Hp} {v : V} {T c : String} {b : Bool} {Q : VK} (h : Kd K H v T) (e : kitB T c = some b) (q : Q (.bl b) H) :
    rIsi K [v, .ty c] H Q := ⟨v, .ty c, .type T, .type c, b, rfl, .ty c, h.ty, kit_ty e, q⟩
def spWhole (K : PySem.W.Frag) : Sp := fun vs H Q _ => ∃ v T, vs = [v] ∧ Kd K H v T ∧ Q (.bl (isI v)) H

/-! ### lists of draws -/
def Acc (d l pD : Addr) (H0 : Hp) (i : Nat) (P : Int → Prop) (H' : Hp) : Prop :=
  ∃ xs : List Int, Step d l H0 H' ∧ H' pD = some (.lst (xs.map V.int)) ∧ xs.length = i ∧ ∀ x ∈ xs, P x
section
variable {d l pD : Addr} {H0 H H4 : Hp} {i : Nat} {P : Int → Prop} {y : Int}
theorem Step.updN (S : Step d l H0 H4) (h1 : pD ≠ d) (h2 : pD ≠ l) (n : H0 pD = none) {o : HO} : Step d l H0 (upd H4 pD o) := by
  obtain ⟨ns, s, c, e1, e2, e3⟩ := S.deck.ex
  refine ⟨⟨S.deck.ne, ns, s, c, by rw [upd_ne h1.symm]; exact e1, by rw [upd_ne h2.symm]; exact e2, e3⟩, ?_⟩
  refine fun b x e => ?_
  obtain ⟨n1, n2, n3⟩ := hide_at e
  have e5 := S.same b x e
  rw [hide_ne n1 n2] at e5 ⊢
  rw [upd_ne (ne_of_none n3 n)]
  exact e5
theorem Acc.start (D : Deck H0 d l) (S : Same H0 H) (e : H pD = some (.lst [])) : Acc d l pD H0 0 P H :=
  ⟨[], Step.of D S, e, rfl, fun x h => nomatch h⟩
theorem Acc.turn (A : Acc d l pD H0 i P H) (S : Step d l H H4) (D : Deck H0 d l) (n : H0 pD = none) (hi : i < 1000) (h : P y) :
    ∃ acc, H4 pD = some (.lst acc) ∧ acc.length < sizeLine ∧ Acc d l pD H0 (i + 1) P (upd H4 pD (.lst (acc ++ [.int y]))) := by
  obtain ⟨xs, S0, e, l1, a⟩ := A
  obtain ⟨h1, h2⟩ := D.nd n
  refine ⟨_, S.at h1 h2 e, by rw [List.length_map, l1]; exact small1000 (by omega), xs ++ [y], (S0.trans S).updN h1 h2 n, ?_, by rw [List.length_append, l1]; rfl, fun x hx => ?_⟩
  · rw [upd_same, List.map_append]; rfl
  · rcases List.mem_append.mp hx with z | z
    · exact a x z
    · rw [List.mem_singleton.mp z]; exact h
end
def lcR {lo : Int} {n : Nat} {g : TG} {tt : TT} {te : TE} {vs : List Nat} {σ : L2.St} {H1 : Hp} {D : Addr} {Qd : Hp → Prop}
    (Pv : Nat → Hp → Prop) (hD : H1 D = none) (h0 : ∀ H', Same H1 H' → H' D = some (.lst []) → Pv 0 H')
    (hs : ∀ i H, i < n → Pv i H → g (.int (lo + i)) (wipe σ vs) H fun σ2 H2 => wipe σ2 vs = wipe σ vs ∧ tt σ2 H2 fun b H3 =>
      if b = true then te σ2 H3 fun y H4 => ∃ acc, H4 D = some (.lst acc) ∧ acc.length < sizeLine ∧ Pv (i + 1) (upd H4 D (.lst (acc ++ [y]))) else Pv (i + 1) H3)
    (hd : ∀ H, Pv n H → Qd H) :=
  lc_range (lo := lo) (n := n) (g := g) (tt := tt) (te := te) (vs := vs) (σ := σ) (H1 := H1) (D := D) (Qd := Qd) Pv (h0 _ (same_new hD) upd_same) hs hd
theorem two {xs : List Int} (h : xs.length = 2) : ∃ x y, xs = [x, y] := by
  match xs, h with
  | [x, y], _ => exact ⟨x, y, rfl⟩
end Cl

namespace Cl
open PySem PySem.Spec PyProof.Rows L2
/-! ### a test of a thing's kind by a small def, asked quietly -/
/-- the thing u stands in the heap with its class's name -/
def KQ (K : PySem.W.Frag) (h : Heap) (u : Value) (T : String) : Prop := ∃ P : Heap → Prop, PySem.W.KitX K u (.type T) P ∧ P h ∧ (∀ h' : Heap, (∀ a o, u = .ref a → h.get? a = some o → h'.get? a = some o) → P h') ∧
  u ≠ .builtin "__main__.__loader__#opaque" ∧ ∀ a, u = .ref a → ∃ o, h.get? a = some o ∧ o.cls = .type T
theorem kq_at {K : PySem.W.Frag} {h : Heap} {a : Addr} {T : String} (Z : PySem.W.KitX K (.ref a) (.type T) (PySem.W.KitAt a T)) (p : ∃ o, h.get? a = some o ∧ o.cls = .type T) : KQ K h (.ref a) T :=
  ⟨_, Z, p, fun h' k => let ⟨o, e, c⟩ := p; ⟨o, k a o rfl e, c⟩, (fun z => nomatch z), fun b e => by cases e; exact p⟩
theorem Kd.kq {X : Cx} {pins : List (Addr × Obj)} {σ : L2.St} {H : Hp} {s : Shared} {v : V} {T : String} {u : Value} (I : Inv X pins σ H s) (h : Kd X.K H v T) (r : RelV v u) : KQ X.K s.heap u T := by
  cases h with
  | non => cases (show u = Value.none from r); exact ⟨_, PySem.W.kitx_none, trivial, fun _ _ => trivial, (fun z => nomatch z), fun a z => nomatch z⟩
  | bl b => cases (show u = Value.bool b from r); exact ⟨_, PySem.W.kitx_bool, trivial, fun _ _ => trivial, (fun z => nomatch z), fun a z => nomatch z⟩
  | int i => obtain ⟨t, q⟩ := (show ∃ t, u = Value.int i t from r); cases q; exact ⟨_, PySem.W.kitx_int, trivial, fun _ _ => trivial, (fun z => nomatch z), fun a z => nomatch z⟩
  | str x => obtain ⟨t, q⟩ := (show ∃ t, u = Value.str x t from r); cases q; exact ⟨_, PySem.W.kitx_str, trivial, fun _ _ => trivial, (fun z => nomatch z), fun a z => nomatch z⟩
  | @lst a xs h =>
    cases (show u = Value.ref a from r)
    obtain ⟨its, rv, ht, hz⟩ := I.list h
    exact kq_at PySem.W.kitx_list ht.isList.typeIs
  | @tup a xs h =>
    cases (show u = Value.ref a from r)
    obtain ⟨its, rv, ht, hz⟩ := I.tuple h
    exact kq_at PySem.W.kitx_tuple ht.typeIs
  | @dct a kvs ea =>
    cases (show u = Value.ref a from r)
    obtain ⟨_, _, vs, _, o, es, ep, h1, h2, _⟩ := (show ObjOk X.prog X.w H s.heap a (.dK kvs) from I.hok a _ ea)
    exact kq_at PySem.W.kitx_dict ⟨o, h1, h2.1⟩
theorem KQ.keeps {K : PySem.W.Frag} {h h' : Heap} {u : Value} {T : String} (q : KQ K h u T) (k : ∀ a o, u = .ref a → h.get? a = some o → h'.get? a = some o) : KQ K h' u T := by
  obtain ⟨P, Z, p, m, n, c⟩ := q
  refine ⟨P, Z, m h' k, fun h'' k2 => m h'' fun a o e g => k2 a o e (k a o e g), n, fun a e => ?_⟩
  obtain ⟨o, g, w⟩ := c a e
  exact ⟨o, k a o e g, w⟩
section
variable {P : Program} {w : World} {K : PySem.W.Frag} {mg : Str → Option Value}
/-- the modules' names stand in this heap -/
def Stands (K : PySem.W.Frag) (mg : Str → Option Value) (h : Heap) : Prop := K.In h ∧ h.Ns mainGlobals mg ∧ (∃ mb, h.Ns builtinsNs mb ∧ ∀ x : Str, x ≠ "__name__" → mb x = bootBuiltins x) ∧ h.NoLimit
theorem Stands.keeps {h h' : Heap} (s : Stands K mg h) (k : ∀ b o, h.get? b = some o → h'.get? b = some o) : Stands K mg h' := by
  obtain ⟨a, b, ⟨mb, c, d⟩, e⟩ := s
  exact ⟨fun x o z => k _ _ (a x o z), b.keeps k, ⟨mb, c.keeps k, d⟩, e.keeps k⟩
/-- f(u): a test of u's class, nothing changed -/
structure QW (P : Program) (w : World) (K : PySem.W.Frag) (mg : Str → Option Value) (f : Addr) : Prop where
  run : ∀ (A : Around) (s : Shared) (u : Value) (T : String) (b1 b2 : Bool), A.depth < recursionLimit → Stands K mg s.heap → KQ K s.heap u T → kitB T "int" = some b1 → kitB T "bool" = some b2 →
    codeAny (model P w) A (.call (.ref f) ⟨[u], []⟩) (fun r s' => r = .ok (.ret (.bool (b1 && !b2))) ∧ Keeps s s') s
theorem keeps_trans {s s1 s2 : Shared} (a : Keeps s s1) (b : Keeps s1 s2) : Keeps s s2 := by
  obtain ⟨h, tk, rfl, k⟩ := a
  obtain ⟨h2, tk2, rfl, k2⟩ := b
  exact ⟨h2, tk2, rfl, fun b o e => k2 b o (k b o e)⟩
/-- isinstance(name, T) in an env of a function -/
theorem quiet_isi {A : Around} {E : Value → Shared → Prop} {env : Env} {s : Shared} {x c : Str} {m : Str → Option Value} {u : Value} {T tc : String} {b : Bool} {Q : Value → Shared → Prop} {p1 p2 p3 p4 : Pos}
    (hk : env.scope.kind = .function) (hx : env.kindOf x = some .local) (hi : env.kindOf "isinstance" = some .globalImplicit) (hc : env.kindOf c = some .globalImplicit) (hg : env.globals = mainGlobals) (hb : env.builtins = builtinsNs)
    (St : Stands K mg s.heap) (mi : mg "isinstance" = none) (mc : mg c = none) (bc : bootBuiltins c = some (.type tc)) (hn : s.heap.Ns env.locals m) (hm : m x = some u) (q : KQ K s.heap u T) (e : kitB T tc = some b)
    (h : ∀ tk, Q (.bool b) { s with toks := tk })
    (hd : (x == ("__debug__" : Str)) = false := by decide) (hdc : (c == ("__debug__" : Str)) = false := by decide) (hcn : c ≠ "__name__" := by decide)
    (he : starEach [.Name x p2, .Name c p3] env = (false, eval (.Name x p2) env) :: starEach [.Name c p3] env := by rfl) (he2 : starEach [.Name c p3] env = [(false, eval (.Name c p3) env)] := by rfl) :
    wpAny (model P w) A (eval (.Call (.Name "isinstance" p1) [.Name x p2, .Name c p3] [] p4) env) Q E s := by
  obtain ⟨inK, ns, ⟨mb, nb, hmb⟩, lim⟩ := St
  have glb : ∀ {y : Str} {v : Value} {p : Pos} {R : Value → Shared → Prop}, env.kindOf y = some .globalImplicit → mg y = none → bootBuiltins y = some v → y ≠ "__name__" → (y == ("__debug__" : Str)) = false → R v s → wpAny (model P w) A (eval (.Name y p) env) R E s :=
    fun {y v p R} k1 k2 k3 k4 k5 r => Calls.Name_function_global hk k1 (Calls.loadGlobal_builtin (by rw [hg]; exact ns) k2 (by rw [hb]; exact nb) ((hmb y k4).trans k3) r) k5
  refine wpAny_Call_Name_kw (glb hi mi PyProof.Rows.boot_isinstance (by decide) (by decide) ?_)
  refine PyProof.Rows.callWith_builtin1 ?_ he (by rw [he2]; rfl)
  rw [he, he2]
  refine Calls.spliced_cons (wpAny_Name (wpAny_loadName_local hk hx hn hm ?_) hd)
  refine Calls.spliced_cons (glb hc mc bc hcn hdc ?_)
  refine Calls.spliced_nil ?_
  obtain ⟨Pz, Z, pz, _, nl, _⟩ := q
  exact PySem.W.kia_one Z inK pz (kit_ty e) nl h
end
end Cl
namespace Cl
open PySem PySem.Spec PyProof.Rows L2
/-! ### def is_whole(thing): return isinstance(thing, int) and not isinstance(thing, bool) -/
section
variable {P : Program} {w : World} {K : PySem.W.Frag} {mg : Str → Option Value}
theorem qw_of {x qual : Str} {st : Stmt} {f : Addr} {fd : FuncData} {p1 p2 p3 p4 p5 p6 p7 p8 p9 p10 p11 : Pos} {y : Str} {k : Nat}
    (F : Fun K x qual st f fd) (S : FnScope [y] [y] (defScope st)) (hloc : (defScope st).names.lookup y = some .local)
    (hi : (defScope st).names.lookup ("isinstance" : Str) = some .globalImplicit) (hc : (defScope st).names.lookup ("int" : Str) = some .globalImplicit) (hb : (defScope st).names.lookup ("bool" : Str) = some .globalImplicit)
    (mi : mg "isinstance" = none) (mc : mg "int" = none) (mb : mg "bool" = none)
    (hbody : defBody st = [.Return (some (.BoolOp .And [.Call (.Name "isinstance" p1) [.Name y p2, .Name "int" p3] [] p4, .UnaryOp .Not (.Call (.Name "isinstance" p5) [.Name y p6, .Name "bool" p7] [] p8) p9] p10)) p11])
    (hbind : Binds K fd [y] []) (hyd : (y == ("__debug__" : Str)) = false := by decide) : QW P w K mg f := by
  refine ⟨fun A s u T b1 b2 hdep St q e1 e2 => ?_⟩
  have hb0 := hbind s [u] St.1 rfl
  obtain ⟨oc, od, kV, doc, pm, an, cdv, ct, osl, rfl, lk, hcd⟩ := F.ex
  obtain ⟨inK, ns, nb, lim⟩ := id St
  refine codeAny_call_function hdep (inK _ _ lk) rfl S.co S.gen rfl (PySem.W.codeRec_of inK hcd) (hb0 _ _ _ _ ?_)
  have kinds : ∀ z ∈ [y].zip ([u] ++ []), (defScope st).names.lookup z.1 = some .local ∨
      ((defScope st).names.lookup z.1 = some .cell ∧ ((cellsFrom (s.heap.objs.size + 1) (defScope st).names []).lookup z.1).isSome = true) := by
    intro z hz
    simp only [List.append_nil, List.zip_cons_cons, List.zip_nil_right, List.mem_singleton] at hz
    subst hz
    exact .inl hloc
  refine wpAny_newFunctionEnv_cells S.kind kinds fun env he s1 z => ?_
  subst he
  have k1 := z.toInCall.keep
  have St1 : Stands K mg s1.heap := St.keeps k1
  have q1' : KQ K s1.heap u T := q.keeps fun a o _ e => k1 a o e
  have ks1 : Keeps s s1 := z.done
  refine ⟨St1.2.2.2, codeAny_func ?_⟩
  show wpAny _ _ (execs (defBody st) _) _ _ s1
  rw [hbody]
  have hm : (bindL (newEnv (defScope st) s.heap.objs.size mainGlobals (cellsFrom (s.heap.objs.size + 1) (defScope st).names []) (qual ++ ".<locals>.") (some f) cdv none builtinsNs).kindOf ([y].zip ([u] ++ [])) fun _ => none) y = some u := by
    show (bindL (fun n => (defScope st).names.lookup n) [(y, u)] fun _ => none) y = some u
    simp [bindL, hloc]
  have isi : ∀ {E' : Value → Shared → Prop} {A' : Around} {c : Str} {tc : String} {b : Bool} {q1 q2 q3 q4 : Pos} {s2 : Shared} {Q2 : Value → Shared → Prop}, Keeps s1 s2 → (defScope st).names.lookup c = some .globalImplicit → mg c = none → bootBuiltins c = some (.type tc) → kitB T tc = some b → (c == ("__debug__" : Str)) = false → c ≠ "__name__" →
      (∀ tk, Q2 (.bool b) { s2 with toks := tk }) → wpAny (model P w) A' (eval (.Call (.Name "isinstance" q1) [.Name y q2, .Name c q3] [] q4) (newEnv (defScope st) s.heap.objs.size mainGlobals (cellsFrom (s.heap.objs.size + 1) (defScope st).names []) (qual ++ ".<locals>.") (some f) cdv none builtinsNs)) Q2 E' s2 := by
    intro E' A' c tc b q1 q2 q3 q4 s2 Q2 ks hcc hmc hbc he hd hn2 h
    obtain ⟨h2, tk2, rfl, k2⟩ := ks
    exact quiet_isi (K := K) (mg := mg) (T := T) S.kind hloc hi hcc rfl rfl (St1.keeps k2) mi hmc hbc (z.toInCall.ns.keeps k2) hm (q1'.keeps fun a o _ e => k2 a o e) he h hyd hd hn2 rfl rfl
  refine wpAny_execs_cons (wpAny_Return_some ?_)
  refine BoolOp_and (isi (GxR.keeps_refl _) hc mc PyProof.Rows.boot_int e1 (by decide) (by decide) fun tk => wpAny_truthy_bool ?_)
  cases b1 with
  | false => exact ⟨rfl, keeps_trans ks1 (GxR.keeps_tok _ _)⟩
  | true =>
    refine BoolOp_one (UnaryOp_ (isi (GxR.keeps_tok _ _) hb mb PyProof.Rows.boot_bool e2 (by decide) (by decide) fun tk2 => not_of (wpAny_truthy_bool ?_)))
    exact ⟨rfl, keeps_trans ks1 (GxR.keeps_tok _ _)⟩
end
end Cl

namespace Cl
open PySem PySem.Spec PyProof.Rows L2
open GxR (TabB TabG Tabbed GenS inv_tab sh_eta)
/-! ### all(test for x in t), t a tuple, the test asked quietly -/
def EltT (P : Program) (w : World) (K : PySem.W.Frag) (mg : Str → Option Value) (scope : Scope) (x : Str) (elt : Expr) (D : Nat) (Cp : List (Str × Addr) → Heap → Prop) (ok : Heap → Value → Bool → Prop) : Prop :=
  ∀ (cenv : Env) (A' : Around) (E' : Value → Shared → Prop) (u : Value) (b : Bool) (s₂ : Shared) (m₂ : Str → Option Value), A'.handled = none → A'.depth ≤ D → cenv.scope = scope → cenv.globals = mainGlobals → cenv.builtins = builtinsNs →
    Stands K mg s₂.heap → Cp cenv.cells s₂.heap → s₂.heap.Ns cenv.locals m₂ → m₂ x = some u → ok s₂.heap u b →
    wpAny (model P w) A' (eval elt cenv) (fun y s₃ => y = .bool b ∧ Keeps s₂ s₃) E' s₂
theorem Same.tabbed {H H' : Hp} {P : Addr} (h : TabG H P) (t : Tabbed P H H') : Same H H' := fun b o e => by
  by_cases hb : b = P
  · subst hb
    obtain ⟨ps, e1, _⟩ := h
    rw [e1] at e
    cases e
    obtain ⟨ps', e2, t2⟩ := t.1
    exact fun _ => ⟨ps', e2, t2⟩
  · rw [t.2 b hb]
    exact .of e
theorem Same.tab {H H' : Hp} {P : Addr} (s : Same H H') (h : TabG H P) : TabG H' P := by
  obtain ⟨ps, e, t⟩ := h
  obtain ⟨ps', e', t'⟩ := s P _ e t
  exact ⟨ps', e', t'⟩
def tAllT (K : PySem.W.Frag) (P : Addr) (cap : L2.St → Hp → Prop) (okV : Hp → V → Bool → Prop) (te : TE) : TE := fun σ H Q => te σ H fun v H1 => ∃ (a : Addr) (xs : List V) (bs : List Bool), v = .ref a ∧ SqT K H1 a xs ∧ bs.length = xs.length ∧
  (∀ (i : Nat) x b, xs[i]? = some x → bs[i]? = some b → okV H1 x b) ∧ cap σ H1 ∧ TabG H1 P ∧ ∀ H2, Same H1 H2 → TabG H2 P → Q (.bl (bs.all id)) H2
theorem all_range (bs : List Bool) : (List.range bs.length).all (fun j => bs.getD j false) = bs.all id := by
  rw [Bool.eq_iff_iff, List.all_eq_true, List.all_eq_true]
  constructor
  · intro h b hb
    obtain ⟨j, hj, e⟩ := List.getElem_of_mem hb
    have q := h j (List.mem_range.mpr hj)
    rw [List.getD_eq_getElem?_getD, List.getElem?_eq_getElem hj, e] at q
    exact q
  · intro h j hj
    have hj' := List.mem_range.mp hj
    rw [List.getD_eq_getElem?_getD, List.getElem?_eq_getElem hj']
    exact h _ (List.getElem_mem hj')
section
variable {X : Cx}
theorem pe_allT {c P : Addr} {elt iter : Expr} {x : Str} {px p pos gpos : Pos} {scope : Scope} {te : TE} {k : Nat} {Cp : List (Str × Addr) → Heap → Prop} {ok : Heap → Value → Bool → Prop} {cap : L2.St → Hp → Prop} {okV : Hp → V → Bool → Prop}
    (hr : Room k X.A) (hg : Gl X "all") (hm : X.mg "all" = none) (TB : TabB X.base X.mg c P) (hcode : X.env.code = .ref c) (S : GenS X.env scope x) (hi : PE X iter te)
    (hel : EltT X.prog X.w X.K X.mg scope x elt (X.A.depth + 1) Cp ok)
    (okk : ∀ h h' u b, ok h u b → (∀ a o, u = .ref a → h.get? a = some o → h'.get? a = some o) → ok h' u b) (okr : ∀ h u b a, ok h u b → u = .ref a → ∃ o, h.get? a = some o ∧ o.cls ≠ .none)
    (okI : ∀ {pins : List (Addr × Obj)} {σ : L2.St} {H : Hp} {s : Shared} {v : V} {u : Value} {b : Bool}, Inv X pins σ H s → RelV v u → okV H v b → ok s.heap u b)
    (cpI : ∀ {pins : List (Addr × Obj)} {σ : L2.St} {H : Hp} {s : Shared}, Inv X pins σ H s → cap σ H → Cp (cloFrom X.env.cells scope.names []) s.heap)
    (cpk : ∀ h h', (∀ b o, o.cls ≠ .none → h.get? b = some o → h'.get? b = some o) → Cp (cloFrom X.env.cells scope.names []) h → Cp (cloFrom X.env.cells scope.names []) h')
    (teσ : ∀ {pins : List (Addr × Obj)} {σ : L2.St} {H : Hp} {s : Shared}, True)
    (hs : ∀ v, genFold iter X.env v = pure v)
    (he : starEach [.GeneratorExp elt [⟨.Name x px, iter, [], 0⟩] scope gpos] X.env = (false, eval (.GeneratorExp elt [⟨.Name x px, iter, [], 0⟩] scope gpos) X.env) :: starEach [] X.env := by rfl) :
    PE X (.Call (.Name "all" p) [.GeneratorExp elt [⟨.Name x px, iter, [], 0⟩] scope gpos] [] pos) (tAllT X.K P cap okV te) := by
  refine ⟨fun pins s σ H Q I h => ?_⟩
  refine wpAny_Call_Name_kw (ld_blt I hg hm PyProof.Rows.boot_all ?_)
  refine PyProof.Rows.callWith_builtin1 ?_ he (by rfl)
  rw [he]
  show wpAny _ _ (spliced ((false, eval (.GeneratorExp elt [⟨.Name x px, iter, [], 0⟩] scope gpos) X.env) :: backTo pos (starEach [] X.env))) _ _ s
  refine Calls.spliced_cons ?_
  refine wpAny_GeneratorExp_walksQD hr.hd S.co (closure_ok S.free) S.cell S.dot S.loc S.kind (by have := hr.dp; omega) ?_ hs
  refine thn (hi.run pins s σ H _ I h) fun xv s1 ⟨v, H1, I1, r1, q1⟩ => ?_
  obtain ⟨a, xs, bs, rfl, hS, lbs, hok, hcap, hT, q⟩ := q1
  cases r1
  obtain ⟨ps, hP, ht⟩ := id hT
  obtain ⟨its, rv, tup, hz⟩ := I1.tuple hS
  have lx := rv.length
  refine wpAny_pyIter_tuple tup ?_
  have hPs : s1.heap.get? P = some { cls := .none, data := .fields ps } := I1.hok P _ hP
  have hPlt : P < s1.heap.objs.size := Heap.lt_size hPs
  have halt : a < s1.heap.objs.size := by obtain ⟨o, e, _⟩ := id tup; exact Heap.lt_size e
  have haP : a ≠ P := fun e => by
    obtain ⟨o, e1, e2, _⟩ := id tup
    rw [e, hPs] at e1
    cases e1
    cases e2
  generalize hito : ({ cls := .type "tuple_iterator", data := .fields #[.ref a, .int 0 0] } : Obj) = ito
  have hP2 : (s1.heap.push ito).get? P = some { cls := .none, data := .fields ps } := Heap.get?_push_of_some _ hPs
  have cd : PySem.W.CodeHd (s1.heap.push ito) c P := TB.code.keeps fun b u e => Heap.get?_push_of_some _ (I1.bk b u e)
  have lim2 : (s1.heap.push ito).NoLimit := I1.nolimit.push ito
  have sz2 : (s1.heap.push ito).objs.size = s1.heap.objs.size + 1 := Heap.size_push ..
  have cont : ∀ (code : Value) (h3 : Heap) (tk : Nat) (ps' : Array Value), Heap.ExtBut P (s1.heap.push ito) h3 → (s1.heap.push ito).objs.size ≤ h3.objs.size → h3.get? P = some { cls := .none, data := .fields ps' } → (∃ more, ps' = ps ++ more) → TriplesOk ps'.toList →
      wpAny (model X.prog X.w) X.A (builtinsFor X.env.globals X.env.builtins) (fun bi s₄ =>
        ∃ Ia fp wr n₀ Pf St₀ pz F, Value.ref s1.heap.objs.size = .ref Ia ∧ (∀ A' : Around, A'.handled = none → Walks X.prog X.w A' Ia fp wr n₀ Pf St₀) ∧ St₀ 0 s₄.heap ∧ (∀ b ∈ fp, b < s₄.heap.objs.size) ∧ s₄.heap.NoLimit ∧ cStatics ∉ wr ∧
          (∀ href : Heap, (∀ b o, s₄.heap.get? b = some o → href.get? b = some o) →
            QuietGenD X.prog X.w (genEnv scope (cloFrom X.env.cells scope.names []) s₄.heap.objs.size code bi X.env) x [] elt (List.range s₄.heap.objs.size) wr Pf pz F href (X.A.depth + 1) (X.A.units + 8)) ∧
          (∀ a h₅ tk gs, gs.bare = true → s₄.heap.objs.size < a → h₅.objs.size = a + 1 → (∀ b o, s₄.heap.get? b = some o → h₅.get? b = some o) →
            WalksS X.prog X.w X.A.in4 a (a :: s₄.heap.objs.size :: List.range s₄.heap.objs.size) (s₄.heap.objs.size :: wr) (GenOnlyQ s₄.gens.size) (passing pz n₀ 0).length
              (fun j y => ∃ i, (passing pz n₀ 0)[j]? = some i ∧ F i y) (GenAt X.prog X.w X.A.in4 a s₄.gens.size s₄.heap.objs.size (List.range s₄.heap.objs.size) wr pz n₀ F) →
            GenAt X.prog X.w X.A.in4 a s₄.gens.size s₄.heap.objs.size (List.range s₄.heap.objs.size) wr pz n₀ F 0 { s₄ with gens := s₄.gens.push gs, toks := tk, heap := h₅ } →
            wpAny (model X.prog X.w) X.A (spliced (backTo pos (starEach [] X.env))) (fun vs s2 => wpAny (model X.prog X.w) X.A (call (.builtin "all") (.ref a :: vs)) (EP X pins σ Q) X.xe s2) X.xe { s₄ with gens := s₄.gens.push gs, toks := tk, heap := h₅ })) X.xe { s1 with heap := h3, toks := tk } := by
    intro code h3 tk ps' hx hsz hP3 hmore ht3
    obtain ⟨bm, ob, e1, e2, e3, e4, e5, e6, e7, e8⟩ := TB.bm
    have keep3 : ∀ b u, b ≠ P → s1.heap.get? b = some u → h3.get? b = some u := fun b u hb e => hx b u hb (Heap.get?_push_of_some _ e)
    have hcP : cStatics ≠ P := fun e => by
      obtain ⟨_, hns, _⟩ := I1.nolimit
      obtain ⟨o', es, ep, ho, hd, _⟩ := hns
      rw [e, hPs] at ho
      cases ho
      cases hd
    have hcl : cStatics < s1.heap.objs.size := let ⟨_, hns, _⟩ := I1.nolimit; hns.lt
    have bP : ∀ b o, X.base.get? b = some o → b ≠ P := fun b o e z => by
      have := (I1.bs b o e).2
      rw [z, hP] at this
      cases this
    have stB : Stands X.K X.mg X.base := ⟨I1.mod.kin, I1.mod.glob, I1.mod.blt, I1.mod.nolimit⟩
    refine wpAny_builtinsFor (m := X.mg) (by rw [I1.ok.glob]; exact ((I1.mod.glob.keeps I1.bk).push ito).extBut hx TB.gP) e1 e2 (keep3 _ _ e4 (I1.bk _ _ e5)) e6 e7 e8 ?_
    refine ⟨s1.heap.objs.size, [s1.heap.objs.size, a], [s1.heap.objs.size], its.toArray.size, fun i v => its.toArray[i]? = some v, (fun i h => h.IsTupleIter s1.heap.objs.size a i ∧ h.IsTuple a its.toArray), (fun _ => true), (fun i y => i < its.toArray.size ∧ y = .bool (bs.getD i false)), rfl,
      fun A' hA => Walks.tuple hA _ _ (Nat.ne_of_lt halt) _, ⟨?_, ?_⟩, ?_, lim2.extBut hx hcP, ?_, ?_, ?_⟩
    · refine ⟨ito, hx _ _ (fun z => Nat.ne_of_lt hPlt z.symm) (Heap.get?_push_size _ (by rw [← hito]; rfl)), by rw [← hito], by rw [← hito]; rfl⟩
    · obtain ⟨o, g1, g2, g3⟩ := id tup
      exact ⟨o, keep3 a o haP g1, g2, g3⟩
    · intro b hb
      show b < h3.objs.size
      simp only [List.mem_cons, List.not_mem_nil, or_false] at hb
      rcases hb with z | z
      · rw [z]; exact Nat.lt_of_lt_of_le (by rw [sz2]; exact Nat.lt_succ_self _) hsz
      · rw [z]; exact Nat.lt_of_lt_of_le halt (Nat.le_trans (by rw [sz2]; exact Nat.le_succ _) hsz)
    · intro z
      rw [List.mem_singleton.mp z] at hcl
      exact Nat.lt_irrefl _ hcl
    · intro href hhref
      refine ⟨fun A' E' i v s₂ m₂ hA hD hU hPv hn hm hk => ?_, fun A' E' i v s₂ m₂ hA hD hU hPv hp hn hm hk => ?_⟩
      · simp only [List.forIn_nil]
        exact wpAny_pure ⟨rfl, GxR.keeps_refl _⟩
      · have key : ∀ b o, b ≠ P → s1.heap.get? b = some o → s₂.heap.get? b = some o := fun b o hb e =>
          hk b (List.mem_range.mpr (Heap.lt_size (keep3 b o hb e))) (fun z => by
            have l := Heap.lt_size e
            rw [List.mem_singleton.mp z] at l
            exact Nat.lt_irrefl _ l) o (hhref b o (keep3 b o hb e))
        have hi' : i < its.length := by
          have := (Array.getElem?_eq_some_iff.mp hPv).1
          simpa using this
        obtain ⟨v', ev, rel⟩ := rv.get (List.getElem?_eq_getElem (show i < xs.length by omega))
        have evv : v' = v := by
          have h1 : its[i]? = some v := by simpa using hPv
          rw [h1] at ev
          exact (Option.some.inj ev).symm
        subst evv
        have hb1 : bs[i]? = some (bs.getD i false) := by
          rw [List.getD_eq_getElem?_getD, List.getElem?_eq_getElem (show i < bs.length by omega)]
          rfl
        have o1 := okI I1 rel (hok i _ _ (List.getElem?_eq_getElem (show i < xs.length by omega)) hb1)
        have o2 := okk _ s₂.heap _ _ o1 fun a' o e g => key a' o (fun z => by
          obtain ⟨o', g1, g2⟩ := okr _ _ _ a' o1 e
          rw [z, hPs] at g1
          cases g1
          exact g2 rfl) g
        refine wpAny_mono (hel _ A' E' v' _ s₂ m₂ hA hD rfl I1.ok.glob rfl (stB.keeps fun b o e => key b o (bP b o e) (I1.bk b o e)) ?_ hn hm o2) (fun y s3 r => ⟨⟨by simpa using hi', r.1⟩, r.2⟩) fun _ _ e => e
        exact cpk s1.heap s₂.heap (fun b o hc e => key b o (fun z => by
          rw [z, hPs] at e
          cases e
          exact hc rfl) e) (cpI I1 hcap)
    · intro g h5 tk5 gs hgb hag hsz5 hk5 W5 hat
      simp only [GxR.passing_true, List.length_range] at W5
      refine Calls.spliced_nil ?_
      have W := W5.in4_1
      refine call_all_walkS (W.self 0 _ _ _ hat ⟨g, _, _, _, _, _, _, fun j => bs.getD j false, rfl, W, hat, ?_, fun s' hm => ?_⟩)
      · intro j y sj Qj Ej hy hQj
        obtain ⟨i, hij, hi2, rfl⟩ := hy
        try rw [GxR.passing_true] at hij
        obtain ⟨hj, ej⟩ := List.getElem?_eq_some_iff.mp hij
        rw [List.getElem_range] at ej
        subst ej
        exact wpAny_truthy_bool hQj
      · obtain ⟨more, em⟩ := hmore
        have nwr : ∀ b u, s1.heap.get? b = some u → b ∉ h3.objs.size :: [s1.heap.objs.size] := fun b u e hb => by
          have hl := Heap.lt_size e
          simp only [List.mem_cons, List.not_mem_nil, or_false] at hb
          rcases hb with z | z
          · rw [z] at hl
            have h9 : (h3.objs.size : Nat) < s1.heap.objs.size := hl
            omega
          · rw [z] at hl
            exact Nat.lt_irrefl _ hl
        have J := inv_tab (more := more) (h' := s'.heap) (g' := s'.gens) (d' := s'.drawn) (t' := s'.toks) I1 hP (fun b u hb e => hm.heap b u (nwr b u e) (hk5 b u (keep3 b u hb e)))
          (by rw [← em]; exact hm.heap P _ (nwr P _ hPs) (hk5 P _ hP3)) (AllBare.movedS (I1.bare.push hgb) hm)
        rw [sh_eta s1 s' hm.os] at J
        have tb : Tabbed P H1 (upd H1 P (.tbl (ps ++ more))) := ⟨⟨ps ++ more, upd_same, by rw [← em]; exact ht3⟩, fun b hb => upd_ne hb⟩
        refine ⟨.bl _, _, J, ?_, q _ (Same.tabbed hT tb) tb.1⟩
        show Value.bool _ = Value.bool _
        rw [← all_range bs, show its.toArray.size = bs.length by simp; omega]
  refine ⟨lim2, ?_⟩
  cases hf : codeAmong gpos ps.toList with
  | none =>
    refine wpAny_genexprCodeX hcode (cd.code hP2 ht) (cd.tab hP2) hf fun c' h' tk hx hge hlt hco' _ htab' _ => ?_
    obtain ⟨o1, vs, f1, tf, fl, tg, inF, tx, tt, op, _, _, _, _, _, _, _, _, _, htr, _⟩ := hco'
    exact cont _ h' tk _ hx (Nat.le_trans hge (Nat.le_of_lt hlt)) htab'.2 ⟨_, rfl⟩ htr
  | some cv =>
    refine wpAny_genexprCode_hit hcode (cd.code hP2 ht) hf ?_
    exact cont cv (s1.heap.push ito) s1.toks ps (Heap.ExtBut.refl _ _) (Nat.le_refl _) hP2 ⟨#[], by simp⟩ ht
end
end Cl

namespace Cl
open PySem PySem.Spec PyProof.Rows L2
open GxR (TabB TabG)
/-! ### a def whose code object's table grows -/
section
variable {P : Program} {w : World} {K : PySem.W.Frag} {mg : Str → Option Value} {base : Heap}
theorem okGT {x qual : Str} {st : Stmt} {f : Addr} {fd : FuncData} {N ps : List Str} {k : Nat} {sp : Sp} {c : Addr}
    (F : Fun K x qual st f fd) (hc : fd.code = .ref c) (S : FnScope N ps (defScope st))
    (len : ∀ vs H Q E, sp vs H Q E → vs.length = ps.length)
    (body : ∀ (A : Around) (outer : List Env) (s : Shared) (H : Hp) (vs : List V) (Q : VK) (E : XK),
      RG k (A.deeper (envOfC qual (defScope st) s.heap.objs.size f (.ref c))) → sp vs H Q E →
      ∃ t, PSs (cxOf CX0 P w K mg base N qual (defScope st) f (.ref c) A outer s H E).nox (defBody st) t ∧
        t { nx := fun _ H' => Q .non H', rt := Q } (start N vs) H) :
    FnG P w K mg base CX0 (k + 1) f fd ps sp := by
  obtain ⟨oc, od, kV, doc, pm, an, cdv, ct, osl, rfl, lk, hcd⟩ := F.ex
  have hc : cdv = .ref c := hc
  subst hc
  constructor
  · exact len
  intro A outer s H args us vs Q E hr e0 hb r hsp
  have nvs := len _ _ _ _ hsp
  have keepB : ∀ b o, base.get? b = some o → s.heap.get? b = some o := fun b o z => (e0.bs b o z).1
  have inK : K.In s.heap := e0.mod.kin.keeps keepB
  have nolim : s.heap.NoLimit := e0.mod.nolimit.keeps keepB
  have kinds : ∀ y ∈ ps.zip us, (defScope st).names.lookup y.1 = some .local ∨
      ((defScope st).names.lookup y.1 = some .cell ∧
        ((cellsFrom (s.heap.objs.size + 1) (defScope st).names []).lookup y.1).isSome = true) := by
    rintro ⟨n, v⟩ hy
    rcases S.par n (List.of_mem_zip hy).1 with z | z
    · exact .inl z
    · exact .inr ⟨z, PySem.W.cellsFrom_some _ _ _ (.inl z)⟩
  refine codeAny_call_function hr.room.depth (inK _ _ lk) rfl S.co S.gen rfl
    (PySem.W.codeRec_of inK hcd) (hb _ _ _ _ ?_)
  refine wpAny_newFunctionEnv_cells S.kind kinds fun env he s1 x => ?_
  subst he
  refine ⟨nolim.keeps x.toInCall.keep, codeAny_func ?_⟩
  have hr2 : RG k (A.deeper (envOfC qual (defScope st) s.heap.objs.size f (.ref c))) := ⟨hr.room.deeper _, hr.gd⟩
  obtain ⟨t, ht, hq⟩ := body A outer s H vs Q E hr2 hsp
  have I : Inv (cxOf CX0 P w K mg base N qual (defScope st) f (.ref c) A outer s H E) [] (start N vs) H s1 :=
    inv_start S hr.room.hd e0 nvs r x
  refine wpAny_mono (ht.nox.run [] s1 (start N vs) H _ I hq) (fun fl s' hs => ?_) fun _ _ z => z
  match fl, hs with
  | .ret u, ⟨v, σ', H', J, rv, q⟩ => exact ⟨v, H', J.os, J.bare, J.base, J.hok, rv, q⟩
  | .next, ⟨σ', H', J, q⟩ => exact ⟨V.non, H', J.os, J.bare, J.base, J.hok, rfl, q⟩
  | .brk, ⟨_, _, _, q⟩ => exact q.elim
  | .cont, ⟨_, _, _, q⟩ => exact q.elim
end
/-! ### the end: the law's call, some defs' tables growing -/
def TabN (mg : Str → Option Value) (h : Heap) (n : Str) : Prop := ∃ (f : Addr) (o : Obj) (fd : FuncData) (c P : Addr), mg n = some (.ref f) ∧ h.get? f = some o ∧ o.data = .func fd ∧ fd.code = .ref c ∧ PySem.W.CodeHd h c P ∧ h.TableAt c P #[]
theorem endGT {l : PySem.W.OpenLaw} {n k : Nat} {q : Program} {loose : List Str} {XP : (Str → Option Value) → Heap → Prop}
    {YP : World → Heap → Prop} {d : DefRec} {K : Params → PySem.W.Frag} {sp : PySem.W.Frag → List (Addr × Addr) → Sp} {x : Str} {ts : List Str}
    (hn : l.most = some n) (hn2 : n ≤ sizeLine) (hdf : d.params.defaults = []) (hr : RG k callerA) (hrec : (ts.all fun n => (recsOf q).any fun e => e.name == n) = true)
    (hY : ∀ (w : World) (h : Heap), YP w h → (K w.params).In h)
    (F : ∀ (w : World) (mg : Str → Option Value) (fa : Addr) (h : Heap), (K w.params).In h → h.Ns mainGlobals mg →
      mg d.name = some (.ref fa) → (∀ n ∈ ts, TabN mg h n) → ∃ (fd : FuncData) (cs : List (Addr × Addr)), (∀ p ∈ cs, PySem.W.CodeHd h p.1 p.2 ∧ h.TableAt p.1 p.2 #[] ∧ (K w.params).lookup p.2 = none) ∧ (∀ (s : Shared) (u : Value), BindsTo s fd ⟨[u], []⟩ [(x, u)]) ∧
        ∀ base : Heap, (K w.params).In base → base.Ns mainGlobals mg → (∀ p ∈ cs, TabB base mg p.1 p.2) → FnG l.prog w (K w.params) mg base CX0 k fa fd [x] (sp (K w.params) cs))
    (hsp : ∀ (w : World) (cs : List (Addr × Addr)) (H : Hp) (a : Addr) (ns : List Int), ns.length ≤ n → (∀ z ∈ ns, Builtin.Int.intBits z ≤ 1048576) →
      (∀ p ∈ cs, H p.2 = some (.tbl #[])) → SqL (K w.params) H a (ns.map V.int) → sp (K w.params) cs [.ref a] H (fun v _ => v = .bl true) E0) :
    PySem.W.WalkO q loose XP YP l.row.toRowW d [] (fun f vs => PySem.call f vs) := by
  refine Att.attach_callB hn hdf fun w s₀ s1 mg mb fa o pm cd doc a us ns G Y ho hd hcd hmg obj hints nlen bits gens => ?_
  have inK : (K w.params).In s1.heap := hY w _ Y
  have tn : ∀ n ∈ ts, TabN mg s1.heap n := fun n hn => by
    obtain ⟨dL, h1, h2⟩ := List.any_eq_true.mp (List.all_eq_true.mp hrec n hn)
    have h2 : dL.name = n := beq_iff_eq.mp h2
    obtain ⟨f, o, fd, c, P, t1, t2, t3, t4, t5, t6⟩ := G.T.tab dL h1
    exact ⟨f, o, fd, c, P, by rw [← h2]; exact t1, t2, t3, t4, .of t5 t6, t6⟩
  obtain ⟨fd, cs, hcs, bind, hF⟩ := F w mg fa _ inK G.T.g hmg tn
  have rv := vals_ints hints
  have nv : us.length = ns.length := hints.length
  obtain ⟨T, hT⟩ : ∃ T, T = cs.map (·.2) := ⟨_, rfl⟩
  have isT : ∀ b ∈ T, s1.heap.get? b = some { cls := .none, data := .fields #[] } := fun b hb => by
    rw [hT] at hb
    obtain ⟨p, hp, e⟩ := List.mem_map.mp hb
    rw [← e]
    exact (hcs p hp).2.1.2
  have memT : ∀ p ∈ cs, p.2 ∈ T := fun p hp => by rw [hT]; exact List.mem_map.mpr ⟨p, hp, rfl⟩
  have aT : a ∉ T := fun z => by
    have q := isT a z
    rw [obj] at q
    have z' : Data.seq us.toArray _ = Data.fields #[] := congrArg Obj.data (Option.some.inj q)
    cases z'
  have small : ns.length ≤ sizeLine := Nat.le_trans nlen hn2
  have go : ∀ H : Hp, (∀ b ∈ T, H b = some (.tbl #[])) → (∀ b, b ∉ T → H b = none ∨ ∃ ob xs, H b = some (.frz ob (.lst xs))) → SqL (K w.params) H a (ns.map V.int) → HOk l.prog w H s1.heap → (∀ b, H b ≠ none → b = a ∨ b ∈ T) →
      (H a ≠ none → (K w.params).lookup a = none) → codeAny (model l.prog w) callerA (.call (.ref fa) ⟨[.ref a], []⟩)
        (fun r s' => r = .ok (.ret (.bool true)) ∧ OldK s1.heap s'.heap ∧ s'.os = s1.os ∧ AllBare s'.gens) s1 := by
    intro H hTb only hS hok atA offK
    have left : ∀ {b : Addr} {o : Obj}, s1.heap.get? b = some o → H b = none → (hidT s1.heap H).get? b = some o :=
      fun e z => hidT_get e z
    -- what is no list and no empty table is not tracked
    have nothing : ∀ {b : Addr} {o : Obj}, s1.heap.get? b = some o → (∀ vs n, o.data ≠ .seq vs n) → o.data ≠ .fields #[] → H b = none := fun {b o} e h1 h2 => by
      cases z : H b with
      | none => rfl
      | some u =>
        rcases atA b (by rw [z]; intro y; cases y) with y | y
        · rw [y, obj] at e
          cases e
          exact absurd rfl (h1 _ _)
        · rw [isT b y] at e
          cases e
          exact absurd rfl h2
    have spaces : ∀ {b : Addr} {m : Str → Option Value}, s1.heap.Ns b m → (hidT s1.heap H).Ns b m :=
      fun {b m} ⟨o, es, ep, e, z, r⟩ => ⟨o, es, ep, left e (nothing e (fun vs n y => by rw [z] at y; cases y) (fun y => by rw [z] at y; cases y)), z, r⟩
    have inB : (K w.params).In (hidT s1.heap H) := fun b o e => left (inK b o e) (by
      cases z : H b with
      | none => rfl
      | some u =>
        rcases atA b (by rw [z]; intro y; cases y) with y | y
        · subst y
          rw [offK (by rw [z]; intro y; cases y)] at e
          cases e
        · rw [hT] at y
          obtain ⟨p, hp, ep⟩ := List.mem_map.mp y
          rw [← ep, (hcs p hp).2.2] at e
          cases e)
    have md : Mod (K w.params) mg (hidT s1.heap H) := by
      obtain ⟨mc, c1, c2⟩ := G.T.nolimit
      exact ⟨inB, spaces G.T.g, ⟨mb, spaces G.T.b, G.T.builtins⟩, ⟨mc, spaces c1, c2⟩⟩
    have TB : ∀ p ∈ cs, TabB (hidT s1.heap H) mg p.1 p.2 := fun p hp => by
      have hTp := isT _ (memT p hp)
      refine ⟨?_, ?_, fun z => ?_⟩
      · obtain ⟨o, us', file, tf, flags, tg, inF, text, tt, e1, r1, r2, r3, r⟩ := (hcs p hp).1
        refine ⟨o, us', file, tf, flags, tg, inF, text, tt, left e1 (nothing e1 (fun vs n z => ?_) fun z => ?_), r1, r2, r3, r⟩
        · rw [r2] at z
          cases z
        · rw [r2] at z
          cases z
          simp at r3
      · obtain ⟨bm, ob, b1, b2, b3, b4, b5, b6⟩ := G.T.bmain
        have nG : bm ≠ mainGlobals := fun y => by
          obtain ⟨o, es, ep, e, z, _⟩ := G.T.g
          rw [y, e] at b3
          cases b3
          rw [z] at b6
          cases b6
        have nP : bm ≠ p.2 := fun y => by
          rw [y, hTp] at b3
          cases b3
          cases b6
        refine ⟨bm, ob, b1, b2, nG, nP, left b3 (nothing b3 (fun vs n z => ?_) fun z => ?_), b4, b5, b6⟩
        · rw [b6] at z
          cases z
        · rw [b6] at z
          cases z
      · obtain ⟨o, es, ep, e, y, _⟩ := G.T.g
        rw [z, hTp] at e
        cases e
        cases y
    have e0 : Env0 l.prog w (K w.params) mg (hidT s1.heap H) callerA [] s1 H :=
      ⟨rfl, md, fun b o e => of_hidT e, Nat.le_of_eq (hidT_size _ _), trivial, fun b z => (nomatch z), hok, .of_eq gens⟩
    have run := (hF _ inB (spaces G.T.g) TB).run callerA [] s1 H ⟨[.ref a], []⟩ [.ref a] [.ref a] _ _ hr e0
      (bind s1 (.ref a)) (.cons rfl .nil) (hsp w cs H a ns nlen bits (fun p hp => hTb _ (memT p hp)) hS)
    refine codeAny_mono run fun res s' h => ?_
    match res, h with
    | .error e, h => exact h.elim
    | .ok .next, h => exact h.elim
    | .ok .brk, h => exact h.elim
    | .ok .cont, h => exact h.elim
    | .ok (.ret u), ⟨v, H', os, bare, un, hok', r', q⟩ =>
      have q' : v = .bl true := q
      subst q'
      have r2 : u = Value.bool true := r'
      subst r2
      have stays : ∀ b o, b ∉ T → s1.heap.get? b = some o → s'.heap.get? b = some o := fun b o hb e => by
        cases z : H b with
        | none => exact un.keep b o e z (fun y => (nomatch y)) (fun y => (nomatch y))
        | some u =>
          rcases only b hb with y | ⟨ob, xs, y⟩
          · rw [z] at y
            cases y
          · obtain ⟨e1, _⟩ := hok b _ y
            obtain ⟨e2, _⟩ := hok' b _ (un.frzs b ob _ y)
            rw [e] at e1
            cases e1
            exact e2
      have grows : ∀ b ∈ T, ∃ more : Array Value, s'.heap.get? b = some { cls := .none, data := .fields (#[] ++ more) } := fun b hb => by
        obtain ⟨more, z⟩ := un.tbls b #[] (hTb b hb)
        exact ⟨more, hok' b _ z⟩
      refine ⟨rfl, ⟨fun b o e => ?_, fun b o e => ?_⟩, os, bare⟩
      · by_cases hb : b ∈ T
        · obtain ⟨more, hm⟩ := grows b hb
          have hb2 := hb
          rw [hT] at hb2
          obtain ⟨p, hp, ep⟩ := List.mem_map.mp hb2
          rw [isT b hb] at e
          cases e
          exact .inr (.inl ⟨by rw [← ep]; exact (hcs p hp).2.1.isCodeTable, rfl, #[], more, rfl, hm⟩)
        · exact .inl (stays b o hb e)
      · by_cases hb : b ∈ T
        · obtain ⟨more, hm⟩ := grows b hb
          exact ⟨_, hm⟩
        · exact ⟨o, stays b o hb e⟩
  let Hf : Option HO → Hp := fun u b => if b ∈ T then some (.tbl #[]) else if b = a then u else none
  have hf : ∀ u b, b ∈ T → Hf u b = some (.tbl #[]) := fun u b hb => if_pos hb
  have hf2 : ∀ u b, b ∉ T → b ≠ a → Hf u b = none := fun u b hb hn => (if_neg hb).trans (if_neg hn)
  have hf3 : ∀ u, Hf u a = u := fun u => (if_neg aT).trans (if_pos rfl)
  cases hk : (K w.params).lookup a with
  | some o =>
    have e := inK a o hk
    rw [obj] at e
    cases e
    refine go (Hf none) (hf none) (fun b hb => ?_) (.inr ⟨_, us.toArray, _, hk, rfl, rfl, rfl, ?_, by simpa using rv⟩)
      (fun b u z => ?_) (fun b z => ?_) fun z => absurd (hf3 none) z
    · by_cases hn : b = a
      · rw [hn]; exact .inl (hf3 none)
      · exact .inl (hf2 none b hb hn)
    · rw [List.size_toArray, nv]
      exact small
    · by_cases hb : b ∈ T
      · rw [hf none b hb] at z
        cases z
        exact isT b hb
      · by_cases hn : b = a
        · rw [hn, hf3] at z; cases z
        · rw [hf2 none b hb hn] at z; cases z
    · by_cases hb : b ∈ T
      · exact .inr hb
      · by_cases hn : b = a
        · exact .inl hn
        · exact absurd (hf2 none b hb hn) z
  | none =>
    let ob : Obj := { cls := .type "list", data := .seq us.toArray }
    refine go (Hf (some (.frz ob (.lst (ns.map V.int))))) (hf _) (fun b hb => ?_) (.inl (.inr ⟨ob, hf3 _⟩)) (fun b u z => ?_) (fun b z => ?_) fun _ => hk
    · by_cases hn : b = a
      · rw [hn]; exact .inr ⟨_, _, hf3 _⟩
      · exact .inl (hf2 _ b hb hn)
    · by_cases hb : b ∈ T
      · rw [hf _ b hb] at z
        cases z
        exact isT b hb
      · by_cases hn : b = a
        · rw [hn, hf3] at z
          cases z
          rw [hn]
          exact ⟨obj, by rw [List.length_map]; exact small, us, _, rv, obj⟩
        · rw [hf2 _ b hb hn] at z; cases z
    · by_cases hb : b ∈ T
      · exact .inr hb
      · by_cases hn : b = a
        · exact .inl hn
        · exact absurd (hf2 _ b hb hn) z
end Cl

namespace Cl
open PySem PySem.Spec PyProof.Rows L2
open GxR (TabB TabG Tabbed GenS)
/-! ### all(is_whole(part) for part in thing) -/
/-- a tuple of these parts, or another thing -/
def Th (K : PySem.W.Frag) (H : Hp) (v : V) : Option (List V) → Prop
  | none => ∃ T, Kd K H v T ∧ T ≠ "tuple"
  | some xs => ∃ a, v = .ref a ∧ SqT K H a xs ∧ ∀ x ∈ xs, ∃ T, Kd K H x T
theorem Kd.same {K : PySem.W.Frag} {H H' : Hp} {v : V} {T : String} (h : Kd K H v T) (s : Same H H') : Kd K H' v T := by
  cases h with
  | non => exact .non
  | bl b => exact .bl b
  | int i => exact .int i
  | str x => exact .str x
  | lst h => exact .lst (by
      rcases h with (h | ⟨o, h⟩) | h
      · exact .inl (.inl (s _ _ h))
      · exact .inl (.inr ⟨o, s _ _ h⟩)
      · exact .inr h)
  | tup h => exact .tup (seT s h)
  | dct h => exact .dct (s _ _ h)
theorem Th.same {K : PySem.W.Frag} {H H' : Hp} {v : V} {o : Option (List V)} (h : Th K H v o) (s : Same H H') : Th K H' v o := by
  cases o with
  | none => obtain ⟨T, h, n⟩ := h; exact ⟨T, h.same s, n⟩
  | some xs => obtain ⟨a, e, h, p⟩ := h; exact ⟨a, e, seT s h, fun x hx => let ⟨T, q⟩ := p x hx; ⟨T, q.same s⟩⟩
def wholes : Option (List V) → Int → Bool
  | none, _ => false
  | some xs, m => decide ((xs.length : Int) = m) && xs.all isI
def spAre (K : PySem.W.Frag) (P : Addr) : Sp := fun vs H Q _ => ∃ v m o, vs = [v, .int m] ∧ TabG H P ∧ Th K H v o ∧ ∀ H', Same H H' → Q (.bl (wholes o m)) H'
/-- is_whole(u), told quietly -/
def okQ (K : PySem.W.Frag) (h : Heap) (u : Value) (b : Bool) : Prop := ∃ T b1 b2, KQ K h u T ∧ kitB T "int" = some b1 ∧ kitB T "bool" = some b2 ∧ b = (b1 && !b2)
section
variable {P : Program} {w : World} {K : PySem.W.Frag} {mg : Str → Option Value}
theorem elt_qw {fn x : Str} {f : Addr} {p1 p2 p3 : Pos} {scope : Scope} {D : Nat} {Cp : List (Str × Addr) → Heap → Prop} (W : QW P w K mg f) (hD : D < recursionLimit) (hf : mg fn = some (.ref f)) (hkf : PySem.W.keepIn K (.ref f) = true)
    (hk : scope.kind = .function) (hl : scope.names.lookup x = some .local) (hg : scope.names.lookup fn = some .globalImplicit) (hd : (x == ("__debug__" : Str)) = false := by decide) (hdf : (fn == ("__debug__" : Str)) = false := by decide) :
    EltT P w K mg scope x (.Call (.Name fn p1) [.Name x p2] [] p3) D Cp (okQ K) := by
  intro cenv A' E' u b s m hA hdep hs hglo hblt St hcp hn hm ok
  obtain ⟨T, b1, b2, q, e1, e2, rfl⟩ := ok
  refine wpAny_Call_Name_kw (Calls.Name_function_global (by rw [hs]; exact hk) (show cenv.scope.names.lookup fn = some .globalImplicit by rw [hs]; exact hg) (Calls.loadGlobal_global (by rw [hglo]; exact St.2.1) hf ?_) hdf)
  refine PySem.W.callWith_K (h₀ := s.heap) (first := []) St.1 hkf ?_
  show wpAny _ _ (spliced [(false, eval (.Name x p2) cenv)]) _ _ s
  refine Calls.spliced_cons (wpAny_Name (wpAny_loadName_local (by rw [hs]; exact hk) (show cenv.scope.names.lookup x = some .local by rw [hs]; exact hl) hn hm ?_) hd)
  refine Calls.spliced_nil ⟨St.1, wpAny_call (codeAny_mono (W.run A' s u T b1 b2 (by omega) St q e1 e2) fun res s' hq => ?_)⟩
  obtain ⟨rfl, k⟩ := hq
  exact ⟨rfl, k⟩
theorem okQ.keeps {h h' : Heap} {u : Value} {b : Bool} (q : okQ K h u b) (k : ∀ a o, u = .ref a → h.get? a = some o → h'.get? a = some o) : okQ K h' u b := by
  obtain ⟨T, b1, b2, q, e⟩ := q
  exact ⟨T, b1, b2, q.keeps k, e⟩
theorem okQ.cls {h : Heap} {u : Value} {b : Bool} {a : Addr} (q : okQ K h u b) (e : u = .ref a) : ∃ o, h.get? a = some o ∧ o.cls ≠ .none := by
  obtain ⟨T, b1, b2, q, _⟩ := q
  obtain ⟨_, _, _, _, _, c⟩ := q
  obtain ⟨o, g, w⟩ := c a e
  exact ⟨o, g, by rw [w]; exact fun z => nomatch z⟩
theorem okQ.of {X : Cx} {pins : List (Addr × Obj)} {σ : L2.St} {H : Hp} {s : Shared} {v : V} {T : String} {u : Value} (I : Inv X pins σ H s) (h : Kd X.K H v T) (r : RelV v u) : okQ X.K s.heap u (isI v) := by
  refine ⟨T, _, _, h.kq I r, h.int?, h.bool?, ?_⟩
  cases v <;> first | rfl | (rename_i b; cases b <;> rfl)
end
end Cl
namespace Cl
open PySem PySem.Spec PyProof.Rows L2
open GxR (TabB TabG Tabbed GenS)
section
variable {X : Cx}
theorem pe_allW {c P f : Addr} {iter : Expr} {fn x : Str} {px p pos gpos p1 p2 p3 : Pos} {scope : Scope} {te : TE} {k : Nat}
    (hr : Room k X.A) (hD : X.A.depth + 1 < recursionLimit) (hg : Gl X "all") (hm : X.mg "all" = none) (TB : TabB X.base X.mg c P) (hcode : X.env.code = .ref c) (W : QW X.prog X.w X.K X.mg f) (hf : X.mg fn = some (.ref f)) (hkf : PySem.W.keepIn X.K (.ref f) = true)
    (hi : PE X iter te) (S : GenS X.env scope x) (hgf : scope.names.lookup fn = some .globalImplicit) (hs : ∀ v, genFold iter X.env v = pure v := by intro _; rfl)
    (hd : (x == ("__debug__" : Str)) = false := by decide) (hdf : (fn == ("__debug__" : Str)) = false := by decide)
    (he : starEach [.GeneratorExp (.Call (.Name fn p1) [.Name x p2] [] p3) [⟨.Name x px, iter, [], 0⟩] scope gpos] X.env = (false, eval (.GeneratorExp (.Call (.Name fn p1) [.Name x p2] [] p3) [⟨.Name x px, iter, [], 0⟩] scope gpos) X.env) :: starEach [] X.env := by rfl) :
    PE X (.Call (.Name "all" p) [.GeneratorExp (.Call (.Name fn p1) [.Name x p2] [] p3) [⟨.Name x px, iter, [], 0⟩] scope gpos] [] pos) (tAllT X.K P (fun _ _ => True) (fun H v b => ∃ T, Kd X.K H v T ∧ b = isI v) te) :=
  pe_allT (Cp := fun _ _ => True) (ok := okQ X.K) hr hg hm TB hcode S hi (elt_qw W hD hf hkf S.kind S.loc hgf hd hdf) (fun _ _ _ _ q k => q.keeps k) (fun _ _ _ _ q e => q.cls e)
    (fun I r ⟨T, h, e⟩ => by rw [e]; exact .of I h r) (fun _ _ => trivial) (fun _ _ _ q => q) trivial hs he
end
end Cl
namespace Cl
open PySem PySem.Spec PyProof.Rows L2
open GxR (TabB TabG Tabbed GenS)
theorem roomD {k : Nat} {A : Around} (r : Room k A) : A.depth + 1 < recursionLimit := by have := r.dp; omega
theorem genS {env : Env} {scope : Scope} {x : Str} (h1 : scope.kind = .function) (h2 : scope.isCoroutine = false) (h3 : ∀ y ∈ scope.names, y.2 ≠ .cell ∧ y.2 ≠ .free) (h4 : scope.names.lookup (".0" : Str) = some NameKind.local) (h5 : scope.names.lookup x = some .local) : GenS env scope x :=
  ⟨h1, h2, fun y h => (h3 y h).1, h4, h5, fun y h e => absurd e (h3 y h).2⟩
end Cl

namespace Cl
open PySem PySem.Spec PyProof.Rows L2
/-! ### pairs of whole numbers -/
def pd (p : Int × Int) : PyData := .tuple [.int p.1, .int p.2]
def At2 (K : PySem.W.Frag) (H : Hp) (v : V) (p : Int × Int) : Prop := ∃ a, v = .ref a ∧ SqT K H a [.int p.1, .int p.2]
def llt (p q : Int × Int) : Bool := decide (p.1 < q.1 ∨ (p.1 = q.1 ∧ p.2 < q.2))
def mn (p q : Int × Int) : Int × Int := if llt q p then q else p
def mx (p q : Int × Int) : Int × Int := if llt p q then q else p
theorem At2.dp {K : PySem.W.Frag} {H : Hp} {v : V} {p : Int × Int} (h : At2 K H v p) : Dp K H v (pd p) := by
  obtain ⟨a, rfl, h⟩ := h
  exact .tup h (.cons (.int _) (.cons (.int _) .nil))
theorem At2.same {K : PySem.W.Frag} {H H' : Hp} {v : V} {p : Int × Int} (h : At2 K H v p) (s : Same H H') : At2 K H' v p := by
  obtain ⟨a, rfl, h⟩ := h
  exact ⟨a, rfl, seT s h⟩
theorem lt_pd (p q : Int × Int) : PySem.W.dataLt (pd p) (pd q) = llt p q := by
  obtain ⟨a, b⟩ := p
  obtain ⟨c, d⟩ := q
  have e1 : PySem.W.keyToks (pd (a, b)) = [.inl 1, .inl a, .inl 1, .inl b, .inl 0] := by simp [pd, PySem.W.keyToks, PySem.W.keyToksAll]
  have e2 : PySem.W.keyToks (pd (c, d)) = [.inl 1, .inl c, .inl 1, .inl d, .inl 0] := by simp [pd, PySem.W.keyToks, PySem.W.keyToksAll]
  unfold PySem.W.dataLt llt
  rw [e1, e2, lex_self (O := itemOrd)]
  by_cases h : a = c
  · subst h
    rw [lex_self (O := itemOrd), lex_self (O := itemOrd)]
    by_cases h2 : b = d
    · subst h2
      rw [lex_self (O := itemOrd), lex_self (O := itemOrd)]
      simp
      rfl
    · rw [lex_diff (O := itemOrd) (by simpa using h2)]
      show decide (b < d) = _
      simp
  · rw [lex_diff (O := itemOrd) (by simpa using h)]
    show decide (a < c) = _
    simp [h]
theorem alike_pd (p q : Int × Int) : PySem.W.alike (pd p) (pd q) = true := rfl
theorem pd_inj {p q : Int × Int} (h : pd p = pd q) : p = q := by
  unfold pd at h
  injection h with h
  injection h with h1 h2
  injection h1 with h1
  injection h2 with h2 _
  injection h2 with h2
  exact Prod.ext h1 h2
section
variable {X : Cx}
def rCmp2 (K : PySem.W.Frag) (f : Int × Int → Int × Int → Bool) : R2 := fun x y H Q => ∃ p q, At2 K H x p ∧ At2 K H y q ∧ Q (.bl (f p q)) H
theorem op_le2 (hu : X.A.units + 64 < cLine) : OpR X (compareOp .LtE) (rCmp2 X.K fun p q => !llt q p) := by
  intro pins s σ H x y v u Q I rx ry ⟨p, q, hp, hq, h⟩
  obtain ⟨as, r1⟩ := Dp.reads I _ x v hp.dp rx
  obtain ⟨bs, r2⟩ := Dp.reads I _ y u hq.dp ry
  exact PySem.W.le_data r1 r2 (alike_pd p q) (fun z => nomatch z) (by show X.A.units + min 1 1 < cLine; omega) ⟨.bl _, H, I, rfl, by rw [lt_pd]; exact h⟩
theorem op_gt2 (hu : X.A.units + 64 < cLine) : OpR X (compareOp .Gt) (rCmp2 X.K fun p q => llt q p) := by
  intro pins s σ H x y v u Q I rx ry ⟨p, q, hp, hq, h⟩
  obtain ⟨as, r1⟩ := Dp.reads I _ x v hp.dp rx
  obtain ⟨bs, r2⟩ := Dp.reads I _ y u hq.dp ry
  exact PySem.W.gt_data r1 r2 (alike_pd p q) (fun z => nomatch z) (by show X.A.units + min 1 1 < cLine; omega) ⟨.bl _, H, I, rfl, by rw [lt_pd]; exact h⟩

/-- min, max of a tuple of two pairs: the pair itself -/
def rBest1 (K : PySem.W.Frag) (f : Int × Int → Int × Int → Int × Int) : List V → Hp → VK → Prop := fun xs H Q =>
  ∃ a u v p q, xs = [.ref a] ∧ SqT K H a [u, v] ∧ At2 K H u p ∧ At2 K H v q ∧ ∀ w, (w = u ∨ w = v) → At2 K H w (f p q) → Q w H
def rBest2 (K : PySem.W.Frag) (f : Int × Int → Int × Int → Int × Int) : List V → Hp → VK → Prop := fun xs H Q =>
  ∃ u v p q, xs = [u, v] ∧ At2 K H u p ∧ At2 K H v q ∧ ∀ w, (w = u ∨ w = v) → At2 K H w (f p q) → Q w H
theorem pick2 {pins : List (Addr × Obj)} {σ : L2.St} {H : Hp} {s : Shared} {h' : Heap} {tk : Nat} {u v : V} {u0 v0 w0 : Value} {p q r : Int × Int} {bs : List Addr} {Q : VK} {i : Nat}
    (I : Inv X pins σ H s) (hk : ∀ b o, s.heap.get? b = some o → h'.get? b = some o) (ru : RelV u u0) (rv : RelV v v0) (hu : At2 X.K H u p) (hv : At2 X.K H v q)
    (e : #[u0, v0][i]? = some w0) (rd : Reads h' w0 (pd r) bs) (h : ∀ w, (w = u ∨ w = v) → At2 X.K H w r → Q w H) :
    EP X pins σ Q w0 { s with heap := h', toks := tk } := by
  have J : Inv X pins σ H { s with heap := h', toks := tk } := I.kept hk
  match i, e with
  | 0, e =>
    cases e
    obtain ⟨as, r1⟩ := Dp.reads J _ u u0 hu.dp ru
    have e2 := pd_inj (rd.unique _ _ r1).1
    subst e2
    exact ⟨u, H, J, ru, h u (.inl rfl) hu⟩
  | 1, e =>
    cases e
    obtain ⟨as, r1⟩ := Dp.reads J _ v v0 hv.dp rv
    have e2 := pd_inj (rd.unique _ _ r1).1
    subst e2
    exact ⟨v, H, J, rv, h v (.inr rfl) hv⟩
  | i + 2, e => exact absurd e (by simp)
theorem all_alike (p q : Int × Int) : PySem.W.AlikeAll [pd p, pd q] := by
  constructor
  · intro x hx y hy
    simp only [List.mem_cons, List.not_mem_nil, or_false] at hx hy
    rcases hx with rfl | rfl <;> rcases hy with rfl | rfl <;> rfl
  · intro x hx
    simp only [List.mem_cons, List.not_mem_nil, or_false] at hx
    rcases hx with rfl | rfl <;> exact fun z => nomatch z
theorem best_mn (p q : Int × Int) : PySem.W.minD (pd p) [pd q] = pd (mn p q) := by
  unfold PySem.W.minD mn
  simp only [List.foldl, lt_pd]
  split <;> rfl
theorem best_mx (p q : Int × Int) : PySem.W.maxD (pd p) [pd q] = pd (mx p q) := by
  unfold PySem.W.maxD mx
  simp only [List.foldl, lt_pd]
  split <;> rfl
theorem cr_min1 (hc : X.calm = true) (hu : X.A.units + 64 < cLine) : CallR X (.builtin "min") (rBest1 X.K mn) := by
  intro pins s σ H xs us Q I r ⟨a, u, v, p, q, e, hS, hp, hq, h⟩
  subst e
  rw [Vals.ref1 r]
  obtain ⟨its, rv, ht, hz⟩ := I.tuple hS
  obtain ⟨u0, v0, rfl, r1, r2⟩ := vals2 rv
  obtain ⟨as, rd1⟩ := Dp.reads I _ u u0 hp.dp r1
  obtain ⟨bs, rd2⟩ := Dp.reads I _ v v0 hq.dp r2
  refine PySem.W.min_tuple_data (x := pd p) (xs := [pd q]) (I.ok.hd hc) ht (.cons rd1 (.cons rd2 .nil)) (all_alike p q) (by show X.A.units + 1 + max 1 (max 1 0) < cLine; omega) fun i w h' tk cs hi rd hk => ?_
  rw [best_mn] at rd
  exact pick2 I hk r1 r2 hp hq hi rd h
theorem cr_max1 (hc : X.calm = true) (hu : X.A.units + 64 < cLine) : CallR X (.builtin "max") (rBest1 X.K mx) := by
  intro pins s σ H xs us Q I r ⟨a, u, v, p, q, e, hS, hp, hq, h⟩
  subst e
  rw [Vals.ref1 r]
  obtain ⟨its, rv, ht, hz⟩ := I.tuple hS
  obtain ⟨u0, v0, rfl, r1, r2⟩ := vals2 rv
  obtain ⟨as, rd1⟩ := Dp.reads I _ u u0 hp.dp r1
  obtain ⟨bs, rd2⟩ := Dp.reads I _ v v0 hq.dp r2
  refine PySem.W.max_tuple_data (x := pd p) (xs := [pd q]) (I.ok.hd hc) ht (.cons rd1 (.cons rd2 .nil)) (all_alike p q) (by show X.A.units + 1 + max 1 (max 1 0) < cLine; omega) fun i w h' tk cs hi rd hk => ?_
  rw [best_mx] at rd
  exact pick2 I hk r1 r2 hp hq hi rd h
/-- max(u, v), min(u, v) of two pairs -/
theorem cr_max2 (hc : X.calm = true) (hu : X.A.units + 64 < cLine) : CallR X (.builtin "max") (rBest2 X.K mx) := by
  intro pins s σ H xs us Q I r ⟨u, v, p, q, e, hp, hq, h⟩
  subst e
  obtain ⟨u0, v0, rfl, r1, r2⟩ := vals2 r
  have nm : (toString "max" ++ toString ".loop" : String) = "max.loop" := by decide
  have bp : Builtin.Builtins.bindParams "max" ["key", "default"] 0 ⟨[], []⟩ = pure [none, none] := rfl
  refine call_function_tree F.kind_max F.plain_max F.entry_max (F.args_max2 _ _) ?_
  show wpAny _ X.A.in1 (Builtin.Builtins.bindParams "max" ["key", "default"] 0 ⟨[], []⟩ >>= _) _ _ s
  refine wpAny_bind (wpAny_of_eq bp ?_)
  show wpAny _ X.A.in1 (newTuple [u0, v0] >>= _) _ _ s
  refine wpAny_bind (wpAny_newObj_type ?_)
  have I1 : Inv X pins σ H { s with heap := s.heap.push { cls := .type "tuple", data := .seq #[u0, v0] } } :=
    I.kept (t' := s.toks) fun b ob z => Heap.get?_push_of_some _ z
  obtain ⟨as, rd1⟩ := Dp.reads I1 _ u u0 hp.dp r1
  obtain ⟨bs, rd2⟩ := Dp.reads I1 _ v v0 hq.dp r2
  have rds : ReadsAll (s.heap.push { cls := .type "tuple", data := .seq #[u0, v0] }) [u0, v0] [pd p, pd q] _ := .cons rd1 (.cons rd2 .nil)
  have cm := PySem.W.cmpIn_gt (prog := X.prog) (w := X.w) (A := X.A.in1) (s := { s with heap := s.heap.push { cls := .type "tuple", data := .seq #[u0, v0] } }) (vs := #[u0, v0]) rds (all_alike p q)
    (by show X.A.units + 1 + max 1 (max 1 0) < cLine; omega)
  refine wpAny_bind (wpAny_mono (PySem.W.iter_tupleW (A := X.A.in1) (vs := #[u0, v0]) (I.ok.hd hc) ⟨_, Heap.get?_push_size _ rfl, rfl, _, rfl⟩ (Q := fun it s2 => ∃ I' fp wr, ∃ G : Array GenState → Array GenState → Prop, ∃ St : Nat → Shared → Prop, it = .ref I' ∧
    WalksS X.prog X.w X.A.in1 I' fp wr G 2 (fun i v => #[u0, v0][i]? = some v) St ∧ St 0 s2 ∧ (∀ b ∈ fp, b < s2.heap.objs.size) ∧ (∀ b o, (s.heap.push { cls := .type "tuple", data := .seq #[u0, v0] }).get? b = some o → b ∉ wr) ∧
    (∀ b o, (s.heap.push { cls := .type "tuple", data := .seq #[u0, v0] }).get? b = some o → s2.heap.get? b = some o) ∧ s2.os = s.os ∧ s2.gens = s.gens ∧ G = (fun a b => b = a) ∧ s2.drawn = s.drawn) fun s2 e2 W st hfp hw hk => ?_) (fun it s2 hh => ?_) fun _ _ z => z)
  · exact ⟨_, _, _, _, _, rfl, W, st, hfp, hw, hk, by rw [e2], by rw [e2], rfl, by rw [e2]⟩
  · obtain ⟨I', fp, wr, G, St, rfl, W, hst, hfp, hw, hkeep, eo, eg, hG, ed⟩ := hh
    refine wpAny_bind (wpAny_newObj_type ?_)
    have hSf : s2.heap.objs.size ∉ fp := fun hm => Nat.lt_irrefl _ (hfp _ hm)
    rw [nm]
    refine wpAny_pure ⟨plainId_quiet F.plain_max_loop _, codeAny_max_loop_firstH W _ hw _ cm s2.heap.objs.size hSf (fresh_in hkeep) _ (by decide)
      (fun b o e => Heap.get?_push_of_some _ (hkeep b o e)) (W.frame 0 s2 _ s2.toks hst (Nat.le_refl _) fun b _ o e => Heap.get?_push_of_some _ e) (Heap.get?_push_size _ rfl) fun v' s' hP hm => ?_⟩
    have m := Moved.drop_new (tk := s2.toks) hm (Nat.le_refl _)
    have eb : argBest (fun i j => PySem.W.dataLt ([pd p, pd q].getD j PyData.none) ([pd p, pd q].getD i PyData.none)) (2 - 1) = if llt p q = true then 1 else 0 := by
      show (if PySem.W.dataLt (pd p) (pd q) = true then 1 else 0) = _
      rw [lt_pd]
    rw [eb] at hP
    have hs' : s' = { s with heap := s'.heap, toks := s'.toks } := by
      obtain ⟨hp', g', d', tk', os'⟩ := s'
      have h1 := m.gens
      rw [hG] at h1
      have h1 : g' = s.gens := h1.trans eg
      have h2 : d' = s.drawn := m.drawn.trans ed
      have h3 : os' = s.os := m.os.trans eo
      subst h1 h2 h3
      rfl
    have J : Inv X pins σ H { s with heap := s'.heap, toks := s'.toks } := I.kept fun b o z => by
      have z1 := Heap.get?_push_of_some { cls := .type "tuple", data := .seq #[u0, v0] } z
      exact m.heap b o (hw _ _ z1) (hkeep _ _ z1)
    rw [hs']
    cases hl : llt p q with
    | true =>
      rw [hl] at hP
      cases hP
      have e3 : mx p q = q := if_pos hl
      exact ⟨v, H, J, r2, h v (.inr rfl) (by rw [e3]; exact hq)⟩
    | false =>
      rw [hl] at hP
      cases hP
      have e3 : mx p q = p := if_neg (by rw [hl]; decide)
      exact ⟨u, H, J, r1, h u (.inl rfl) (by rw [e3]; exact hp)⟩
/-- min(u, v) of two pairs -/
theorem cr_min2 (hc : X.calm = true) (hu : X.A.units + 64 < cLine) : CallR X (.builtin "min") (rBest2 X.K mn) := by
  intro pins s σ H xs us Q I r ⟨u, v, p, q, e, hp, hq, h⟩
  subst e
  obtain ⟨u0, v0, rfl, r1, r2⟩ := vals2 r
  have nm : (toString "min" ++ toString ".loop" : String) = "min.loop" := by decide
  have bp : Builtin.Builtins.bindParams "min" ["key", "default"] 0 ⟨[], []⟩ = pure [none, none] := rfl
  refine call_function_tree F.kind_min F.plain_min F.entry_min (F.args_min2 _ _) ?_
  show wpAny _ X.A.in1 (Builtin.Builtins.bindParams "min" ["key", "default"] 0 ⟨[], []⟩ >>= _) _ _ s
  refine wpAny_bind (wpAny_of_eq bp ?_)
  show wpAny _ X.A.in1 (newTuple [u0, v0] >>= _) _ _ s
  refine wpAny_bind (wpAny_newObj_type ?_)
  have I1 : Inv X pins σ H { s with heap := s.heap.push { cls := .type "tuple", data := .seq #[u0, v0] } } :=
    I.kept (t' := s.toks) fun b ob z => Heap.get?_push_of_some _ z
  obtain ⟨as, rd1⟩ := Dp.reads I1 _ u u0 hp.dp r1
  obtain ⟨bs, rd2⟩ := Dp.reads I1 _ v v0 hq.dp r2
  have rds : ReadsAll (s.heap.push { cls := .type "tuple", data := .seq #[u0, v0] }) [u0, v0] [pd p, pd q] _ := .cons rd1 (.cons rd2 .nil)
  have cm := PySem.W.cmpIn_lt (prog := X.prog) (w := X.w) (A := X.A.in1) (s := { s with heap := s.heap.push { cls := .type "tuple", data := .seq #[u0, v0] } }) (vs := #[u0, v0]) rds (all_alike p q)
    (by show X.A.units + 1 + max 1 (max 1 0) < cLine; omega)
  refine wpAny_bind (wpAny_mono (PySem.W.iter_tupleW (A := X.A.in1) (vs := #[u0, v0]) (I.ok.hd hc) ⟨_, Heap.get?_push_size _ rfl, rfl, _, rfl⟩ (Q := fun it s2 => ∃ I' fp wr, ∃ G : Array GenState → Array GenState → Prop, ∃ St : Nat → Shared → Prop, it = .ref I' ∧
    WalksS X.prog X.w X.A.in1 I' fp wr G 2 (fun i v => #[u0, v0][i]? = some v) St ∧ St 0 s2 ∧ (∀ b ∈ fp, b < s2.heap.objs.size) ∧ (∀ b o, (s.heap.push { cls := .type "tuple", data := .seq #[u0, v0] }).get? b = some o → b ∉ wr) ∧
    (∀ b o, (s.heap.push { cls := .type "tuple", data := .seq #[u0, v0] }).get? b = some o → s2.heap.get? b = some o) ∧ s2.os = s.os ∧ s2.gens = s.gens ∧ G = (fun a b => b = a) ∧ s2.drawn = s.drawn) fun s2 e2 W st hfp hw hk => ?_) (fun it s2 hh => ?_) fun _ _ z => z)
  · exact ⟨_, _, _, _, _, rfl, W, st, hfp, hw, hk, by rw [e2], by rw [e2], rfl, by rw [e2]⟩
  · obtain ⟨I', fp, wr, G, St, rfl, W, hst, hfp, hw, hkeep, eo, eg, hG, ed⟩ := hh
    refine wpAny_bind (wpAny_newObj_type ?_)
    have hSf : s2.heap.objs.size ∉ fp := fun hm => Nat.lt_irrefl _ (hfp _ hm)
    rw [nm]
    refine wpAny_pure ⟨plainId_quiet F.plain_min_loop _, codeAny_min_loop_firstH W _ hw _ cm s2.heap.objs.size hSf (fresh_in hkeep) _ (by decide)
      (fun b o e => Heap.get?_push_of_some _ (hkeep b o e)) (W.frame 0 s2 _ s2.toks hst (Nat.le_refl _) fun b _ o e => Heap.get?_push_of_some _ e) (Heap.get?_push_size _ rfl) fun v' s' hP hm => ?_⟩
    have m := Moved.drop_new (tk := s2.toks) hm (Nat.le_refl _)
    have eb : argBest (fun i j => PySem.W.dataLt ([pd p, pd q].getD i PyData.none) ([pd p, pd q].getD j PyData.none)) (2 - 1) = if llt q p = true then 1 else 0 := by
      show (if PySem.W.dataLt (pd q) (pd p) = true then 1 else 0) = _
      rw [lt_pd]
    rw [eb] at hP
    have hs' : s' = { s with heap := s'.heap, toks := s'.toks } := by
      obtain ⟨hp', g', d', tk', os'⟩ := s'
      have h1 := m.gens
      rw [hG] at h1
      have h1 : g' = s.gens := h1.trans eg
      have h2 : d' = s.drawn := m.drawn.trans ed
      have h3 : os' = s.os := m.os.trans eo
      subst h1 h2 h3
      rfl
    have J : Inv X pins σ H { s with heap := s'.heap, toks := s'.toks } := I.kept fun b o z => by
      have z1 := Heap.get?_push_of_some { cls := .type "tuple", data := .seq #[u0, v0] } z
      exact m.heap b o (hw _ _ z1) (hkeep _ _ z1)
    rw [hs']
    cases hl : llt q p with
    | true =>
      rw [hl] at hP
      cases hP
      have e3 : mn p q = q := if_pos hl
      exact ⟨v, H, J, r2, h v (.inr rfl) (by rw [e3]; exact hq)⟩
    | false =>
      rw [hl] at hP
      cases hP
      have e3 : mn p q = p := if_neg (by rw [hl]; decide)
      exact ⟨u, H, J, r1, h u (.inl rfl) (by rw [e3]; exact hp)⟩
end
end Cl

namespace Cl
open PySem PySem.Spec PyProof.Rows L2
def pr (q : Addr × List Int) : Int × Int := (q.2.getD 0 0, q.2.getD 1 0)
def le2 (q r : Addr × List Int) : Prop := llt (pr r) (pr q) = false
theorem pr_of {q : Addr × List Int} (h : q.2.length = 2) : q.2 = [(pr q).1, (pr q).2] := by
  obtain ⟨a, xs⟩ := q
  match xs, h with
  | [x, y], _ => rfl
section
variable {P : Program} {w : World} {A : Around} {E : Value → Shared → Prop} {s : Shared} {a : Addr} {L : List (Addr × List Int)}
  {es : Array (Int × Value)} {ep : Nat} {t : SetTable} {Q : Value → Shared → Prop}
/-- sorted(set) of pairs of any whole numbers -/
theorem sorted_set2 (R : SetTR P w s.heap a L es ep t) (hh : A.handled = none) (h2 : ∀ p ∈ L, p.2.length = 2) (hu : A.units + 64 < cLine)
    (hQ : ∀ s' p (out : Array Value) (c : Nat) (L' : List (Addr × List Int)), (∀ b o, s.heap.get? b = some o → s'.heap.get? b = some o) →
      s'.gens = s.gens → s'.os = s.os → s.heap.objs.size ≤ p → s'.heap.get? p = some (seqObj "list" out c) →
      out.toList = L'.map (fun q => Value.ref q.1) → L'.Perm L → L'.Pairwise le2 → Q (.ref p) s') :
    wpAny (model P w) A (call (.builtin "sorted") [.ref a]) Q E s := by
  obtain ⟨o, ho, hex, hd⟩ := R.ob
  have nfew := R.few
  refine Calls.call_function_entry kind_sorted plain_sorted entry_sorted (args_sorted1 _) ?_
  unfold Builtin.«sorted»
  refine wpAny_bind (m := checkCount "sorted" 1 1 _) (wpAny_pure ?_)
  refine wpAny_bind (collect_set (A := A.in1) hh ⟨o, ho, hex.1, hd⟩ R.fits (by unfold scanBound; have := R.size; omega) R.tab.ris R.led fun s1 vs k1 hz g1 o1 pm => ?_)
  have rows : es.toList.map (·.2) = L.map fun q => Value.ref q.1 := by
    rw [R.rows]
    unfold rowsOf
    rw [List.map_map]
    rfl
  rw [rows] at pm
  -- what was collected is the set's rows, put in some order
  obtain ⟨L1, e1, p1⟩ : ∃ L1 : List (Addr × List Int), vs = L1.map (fun q => Value.ref q.1) ∧ L1.Perm L := by
    clear hQ k1 g1 o1 hz
    have gen : ∀ (L : List (Addr × List Int)) (us vs : List Value), us = L.map (fun q => Value.ref q.1) → vs.Perm us → ∃ L1 : List (Addr × List Int), vs = L1.map (fun q => Value.ref q.1) ∧ L1.Perm L := by
      intro L us vs eu hp
      induction hp generalizing L with
      | nil =>
        cases L with
        | nil => exact ⟨[], rfl, .nil⟩
        | cons q L => cases eu
      | @cons x l1 l2 hp ih =>
        cases L with
        | nil => cases eu
        | cons q L =>
          rw [List.map_cons] at eu
          injection eu with e2 e3
          obtain ⟨L1, e4, p4⟩ := ih L e3
          exact ⟨q :: L1, by rw [List.map_cons, e2, e4], p4.cons q⟩
      | swap x y l =>
        match L, eu with
        | q :: r :: L, eu =>
          rw [List.map_cons, List.map_cons] at eu
          injection eu with e2 e3
          injection e3 with e3 e4
          exact ⟨r :: q :: L, by rw [List.map_cons, List.map_cons, e2, e3, e4], .swap ..⟩
        | [_], eu => cases eu
        | [], eu => cases eu
      | trans h1 h2 ih1 ih2 =>
        obtain ⟨L2, e2, p2⟩ := ih2 L eu
        obtain ⟨L1, e1, p1⟩ := ih1 L2 e2
        exact ⟨L1, e1, p1.trans p2⟩
    exact gen L _ vs rfl pm
  have n1 : vs.length = L.length := by rw [e1, List.length_map, p1.length_eq]
  have small : vs.length ≤ sizeLine := by rw [sizeLine_eq]; omega
  refine wpAny_bind (wpAny_newList ?_ small)
  have oL : (s1.heap.push (seqObj "list" vs.toArray 0)).get? s1.heap.objs.size = some (seqObj "list" vs.toArray 0) := Heap.get?_push_size _ rfl
  let enc : Addr × List Int → PyData := fun q => .tuple [.int (pr q).1, .int (pr q).2]
  have reads : ∀ q ∈ L, ∃ as, Reads (s1.heap.push (seqObj "list" vs.toArray 0)) (.ref q.1) (enc q) as ∧ s1.heap.objs.size ∉ as := fun q hq => by
    obtain ⟨ob, its, n, x1, x2, x3, x4⟩ := R.tup q hq
    have x5 := ints_of_items x4
    rw [pr_of (h2 q hq)] at x5
    have lt := Heap.lt_size x1
    have y1 := Heap.get?_push_of_some (seqObj "list" vs.toArray 0) (k1 _ _ x1)
    obtain ⟨l, el⟩ : ∃ l, its.toList = l := ⟨_, rfl⟩
    rw [el] at x5
    have ei : its = l.toArray := by rw [← el]
    subst ei
    match l, x5 with
    | [.int _ t1, .int _ t2], .cons _ _ (.cons _ _ .nil) =>
      refine ⟨_, Reads.tuple y1 x2 x3 (.cons (.int _ _) (.cons (.int _ _) .nil)), fun z => ?_⟩
      have z2 : s1.heap.objs.size = q.1 := by simpa using z
      exact absurd (Nat.lt_of_lt_of_le lt hz) (by rw [z2]; exact Nat.lt_irrefl _)
  have each : ∀ l : List (Addr × List Int), (∀ q ∈ l, q ∈ L) → PySem.W.EachIs (fun (v : Value) (q : Addr × List Int) => v = .ref q.1) (l.map fun q => Value.ref q.1) l ∧
      PySem.W.EachIs (fun v q => ∃ as, Reads (s1.heap.push (seqObj "list" vs.toArray 0)) v (enc q) as ∧ s1.heap.objs.size ∉ as) (l.map fun q => Value.ref q.1) l := by
    intro l
    induction l with
    | nil => intro _; exact ⟨.nil, .nil⟩
    | cons q l ih =>
      intro h
      obtain ⟨i1, i2⟩ := ih fun r hr => h r (List.mem_cons_of_mem _ hr)
      exact ⟨.cons rfl i1, .cons (reads q (h q List.mem_cons_self)) i2⟩
  obtain ⟨c1, c2⟩ := each L1 fun q hq => p1.mem_iff.mp hq
  rw [← e1] at c1 c2
  refine wpAny_bind (wpAny_holding (PySem.W.list_sort_data (s := { s1 with heap := s1.heap.push (seqObj "list" vs.toArray 0) }) (enc := enc) oL c1 c2 (.of fun _ _ => rfl) (.tuples fun b => ⟨_, _, rfl⟩) (by rw [p1.length_eq, sizeLine_eq]; omega)
    (fun b _ => by show A.in1.units + 1 + 1 < cLine; show A.units + 1 + 1 + 1 < cLine; omega) fun out a1 a2 => ?_))
  obtain ⟨c, hc⟩ := sortedHeap_at (vs := vs) (out := out.toArray) oL
  have eo : out = (L1.mergeSort (PySem.W.dataLe false enc)).map fun q => Value.ref q.1 := by
    revert a2
    generalize L1.mergeSort (PySem.W.dataLe false enc) = M
    intro a2
    clear hc a1
    induction a2 with
    | nil => rfl
    | cons h t ih => rw [List.map_cons, ← ih, h]
  have pM : (L1.mergeSort (PySem.W.dataLe false enc)).Perm L := (List.mergeSort_perm _ _).trans p1
  have pw : (L1.mergeSort (PySem.W.dataLe false enc)).Pairwise le2 := by
    have hle : PySem.W.dataLe false enc = fun p q => decide ((pr p).1 < (pr q).1 ∨ ((pr p).1 = (pr q).1 ∧ (pr p).2 ≤ (pr q).2)) :=
      PySem.W.dataLe_ii (fun q => (pr q).1) (fun q => (pr q).2)
    rw [hle]
    refine List.Pairwise.imp (fun {q r} h => ?_) (List.pairwise_mergeSort (fun p q r h1 h2 => ?_) (fun p q => ?_) L1)
    · have h := of_decide_eq_true h
      unfold le2 llt
      exact decide_eq_false (by omega)
    · have h1 := of_decide_eq_true h1
      have h2 := of_decide_eq_true h2
      exact decide_eq_true (by omega)
    · rw [Bool.or_eq_true, decide_eq_true_eq, decide_eq_true_eq]
      omega
  refine wpAny_pure ⟨_, rfl, hQ _ s1.heap.objs.size out.toArray c (L1.mergeSort (PySem.W.dataLe false enc)) (fun b u e => ?_) g1 o1 hz hc eo pM pw⟩
  have e5 := k1 b u e
  have lt5 := Heap.lt_size e5
  show (sortedHeap (s1.heap.push (seqObj "list" vs.toArray 0)) s1.heap.objs.size vs out.toArray).get? b = some u
  rw [sortedHeap_old (Nat.ne_of_lt lt5) (by rw [size_push']; exact Nat.lt_succ_of_lt lt5)]
  exact Heap.get?_push_of_some _ e5
end
section
variable {X : Cx}
def rSortedS2 (K : PySem.W.Frag) (P : Program) (w : World) : List V → Hp → VK → Prop := fun vs H Q => ∃ (a : Addr) (L : List (Addr × List Int)),
  vs = [V.ref a] ∧ H a = some (SetTO P w a L) ∧ (∀ p ∈ L, SqT K H p.1 (p.2.map V.int)) ∧ (∀ p ∈ L, p.2.length = 2) ∧
  ∀ L' : List (Addr × List Int), L'.Perm L → (L'.map (·.2)).Nodup → L'.Pairwise le2 → New H (.lst (L'.map fun q => V.ref q.1)) Q
theorem cr_sortedS2 (hc : X.calm = true) (hu : X.A.units + 64 < cLine) : CallR X (.builtin "sorted") (rSortedS2 X.K X.prog X.w) := by
  intro pins s σ H vs us Q I r ⟨a, L, e, ha, hk, h2, q⟩
  subst e
  obtain ⟨es, ep, t, R⟩ := SetT0.full (I.hok a _ ha).1 fun p hp => I.isT (hk p hp)
  rw [Vals.ref1 r]
  refine sorted_set2 R (I.ok.hd hc) h2 hu fun s' p out c L' k g o hp hg hout pm pw => ?_
  have few : L'.length < 64 := by rw [pm.length_eq]; exact R.few
  have len : (L'.map fun q => V.ref q.1).length ≤ sizeLine := by rw [List.length_map, sizeLine_eq]; omega
  have hn : H p = none := I.hok.fresh hp
  have hv : Vals (L'.map fun q => V.ref q.1) out.toList := by rw [hout]; exact vals_of_refs L'
  have J : Inv X pins σ (upd H p (.lst (L'.map fun q => V.ref q.1))) { s with heap := s'.heap, gens := s'.gens, drawn := s'.drawn, toks := s'.toks } :=
    I.call (ch := []) (Un.laid k hp hn) (I.hok.laid k hp ⟨len, out.toList, c, hv, hg⟩) (by rw [g]; exact I.bare) (fun _ z => nomatch z)
  have e : s' = { s with heap := s'.heap, gens := s'.gens, drawn := s'.drawn, toks := s'.toks } := by
    cases s'
    cases s
    cases o
    rfl
  rw [e]
  exact ⟨.ref p, _, J, rfl, (q L' pm ((pm.map (·.2)).nodup_iff.mpr R.nd) pw).go p hn⟩
def rSetN (K : PySem.W.Frag) (P : Program) (w : World) : List V → Hp → VK → Prop := fun xs H Q => ∃ (l : Addr) (ks : List (Addr × List Int)), xs = [V.ref l] ∧ SqL K H l (ks.map fun p => V.ref p.1) ∧
  (∀ p ∈ ks, SqT K H p.1 (p.2.map V.int)) ∧ ks.length < 64 ∧ ∀ a H' L, Same H H' → H a = none → H' a = some (SetTO P w a L) → (∀ p ∈ L, p ∈ ks) → (∀ p ∈ ks, p.2 ∈ L.map (·.2)) → Q (.ref a) H'
theorem cr_setN (hc : X.calm = true) (hu : X.A.units + 64 < cLine) : CallR X (.type "set") (rSetN X.K X.prog X.w) := by
  intro pins s σ H xs us Q I r ⟨l, ks, e, h1, h2, h3, q⟩
  exact cr_setOfT hc hu pins s σ H xs us Q I r ⟨l, ks, e, h1, h2, h3, fun a L n s1 s2 => q a _ L (same_new n) n upd_same s1 s2⟩
end
end Cl

namespace Cl
open PySem PySem.Spec PyProof.Rows L2 HT
/-! ### t[::-1] of a tuple -/
theorem rev_adjust (n : Nat) : Builtin.Slice.sliceAdjust none none (-1) (n : Int) = ((n : Int) - 1, -1) := rfl
theorem rev_places (n : Nat) : Builtin.Slice.slicePlaces ((n : Int) - 1) (-1) (-1) = n := by
  unfold Builtin.Slice.slicePlaces
  rw [if_neg (by decide)]
  split
  · rw [show ((n : Int) - 1 - -1 - 1) / (- -1) = (n : Int) - 1 by rw [show (- -1 : Int) = 1 by decide, Int.ediv_one]; omega]
    omega
  · omega
theorem fm_congr {α β : Type} {f g : α → Option β} : ∀ (l : List α), (∀ k ∈ l, f k = g k) → l.filterMap f = l.filterMap g
  | [], _ => rfl
  | x :: l, h => by
    rw [List.filterMap_cons, List.filterMap_cons, h x List.mem_cons_self, fm_congr l fun k hk => h k (List.mem_cons_of_mem _ hk)]
theorem rev_pick (xs : Array Value) : ((List.range xs.size).filterMap fun (k : Nat) => xs[((xs.size : Int) - 1 + (k : Int) * -1).toNat]?).toArray = xs.toList.reverse.toArray := by
  congr 1
  have e : (List.range xs.size).filterMap (fun (k : Nat) => xs[((xs.size : Int) - 1 + (k : Int) * -1).toNat]?) =
      ((List.range xs.size).map fun k => xs.size - 1 - k).filterMap (xs[·]?) := by
    rw [List.filterMap_map]
    refine fm_congr _ fun k hk => ?_
    have hk := List.mem_range.mp hk
    show xs[((xs.size : Int) - 1 + (k : Int) * -1).toNat]? = xs[xs.size - 1 - k]?
    congr 1
    omega
  rw [e, PySem.W.krv_range, List.filterMap_reverse, PySem.W.krv_all]
section
variable {prog : Program} {w : World} {A : Around} {E : Value → Shared → Prop} {s : Shared}
theorem getItem_tuple_rev {t sl : Addr} {items : Array Value} {tk : Tok} {Q : Value → Shared → Prop} (ht : IsTup s.heap t items)
    (hs : s.heap.IsSliceOf sl .none .none (.int (-1) tk)) (hsz : items.size ≤ sizeLine)
    (h : Q (.ref s.heap.objs.size) { s with heap := s.heap.push { cls := .type "tuple", data := .seq items.toList.reverse.toArray } }) :
    wpAny (model prog w) A (getItem (.ref t) (.ref sl)) Q E s := by
  obtain ⟨os, hos, hcs, hds⟩ := id hs
  have isS : s.TypeIs (.ref sl) "slice" := ⟨os, hos, hcs⟩
  have fits : sizeOk (.seq items.toList.reverse.toArray) := by
    show items.toList.reverse.toArray.size ≤ sizeLine
    rw [List.size_toArray, List.length_reverse, Array.length_toList]
    exact hsz
  unfold getItem
  try with_reducible refine wpAny_holding ?_
  first | refine wpAny_bind (wpAny_pure ?_) | skip
  refine wpAny_bind (wpAny_sequenceKey ht.typeIs (by decide) ?_)
  refine wpAny_bind (wpAny_callSpecial?_slot (name := Str.ofString "__getitem__") ht.typeIs PyProof.Rows.slot_tuple_getitem
    (wpAny_call_entry PyProof.Rows.slot_tuple_getitem ht.typeIs entry_tuple_getitem ?_ (args_tuple_getitem _ _)))
  show wpAny _ _ (Builtin.Tuple.tupleItemsOf (.ref t) >>= _) _ _ s
  refine wpAny_bind (tupleItemsOf_ ht ?_)
  refine wpAny_bind (wpAny_typeOf isS ?_)
  rw [if_pos (by decide)]
  have applied : ∀ (A' : Around) (E' : Value → Shared → Prop) (Q' : Int × Int × Nat → Shared → Prop), Q' ((items.size : Int) - 1, -1, items.size) s →
      wpAny (model prog w) A' (Builtin.Slice.sliceApplied (.ref sl) (pure (items.size : Int))) Q' E' s := fun A' E' Q' q => by
    unfold Builtin.Slice.sliceApplied Builtin.Slice.sliceFields
    refine wpAny_bind (wpAny_bind (wpAny_field hos hds (x := .none) rfl (wpAny_bind (wpAny_field hos hds (x := .none) rfl (wpAny_bind (wpAny_field hos hds (x := .int (-1) tk) rfl (wpAny_pure ?_)))))))
    refine wpAny_bind (slicePart_ (.int (-1) tk) ?_)
    show wpAny _ _ (if ((-1 : Int) == 0) = true then _ else _) _ _ s
    rw [if_neg (by decide)]
    refine wpAny_bind (slicePart_ .none (wpAny_bind (slicePart_ .none (wpAny_bind (wpAny_pure ?_)))))
    show wpAny _ _ (match Builtin.Slice.sliceAdjust none none (-1) (items.size : Int) with | (lo, hi) => pure (lo, (-1 : Int), Builtin.Slice.slicePlaces lo hi (-1))) _ _ s
    rw [rev_adjust]
    show wpAny _ _ (pure ((items.size : Int) - 1, (-1 : Int), Builtin.Slice.slicePlaces ((items.size : Int) - 1) (-1) (-1))) _ _ s
    rw [rev_places]
    exact wpAny_pure q
  refine wpAny_bind (applied _ _ _ ?_)
  have notw : ¬ ((((items.size : Int) - 1) == 0 && (-1 : Int) == 1 && items.size == items.size) = true) := by
    rw [show ((-1 : Int) == 1) = false by decide, Bool.and_false, Bool.false_and]
    decide
  show wpAny _ _ (if (((items.size : Int) - 1) == 0 && (-1 : Int) == 1 && items.size == items.size) = true then _ else _) _ _ s
  rw [if_neg notw, rev_pick]
  first
    | exact wpAny_bind (m := Builtin.Tuple.tupleExact _) (wpAny_newObj_type (wpAny_pure ⟨_, rfl, wpAny_pure h⟩) fits)
    | exact wpAny_bind (m := Builtin.Tuple.tupleExact _) (wpAny_newObj_type (wpAny_bind (wpAny_pure (wpAny_pure ⟨_, rfl, wpAny_pure h⟩))) fits)
    | exact wpAny_bind (wpAny_bind (m := Builtin.Tuple.tupleExact _) (wpAny_newObj_type (wpAny_pure (wpAny_pure ⟨_, rfl, wpAny_pure h⟩)) fits))
    | exact wpAny_bind (wpAny_bind (m := Builtin.Tuple.tupleExact _) (wpAny_newObj_type (wpAny_pure ⟨_, rfl, wpAny_pure h⟩) fits))
end
section
variable {X : Cx} {e : Expr} {te : TE}
def tRevT (K : PySem.W.Frag) (te : TE) : TE := fun σ H Q => te σ H fun x H1 => ∃ a xs, x = .ref a ∧ SqT K H1 a xs ∧ New H1 (.tup xs.reverse) Q
theorem pe_revT {p0 p1 p2 pos : Pos} {j : Nat} (he : PE X e te) :
    PE X (.Subscript e (.Slice none none (some (.UnaryOp .USub (.Constant (.int 1) j p0) p1)) p2) pos) (tRevT X.K te) := by
  constructor
  intro pins s σ H Q I h
  refine Subscript_ (thn (he.run pins s σ H _ I h) fun v s1 ⟨x, H1, I1, r1, a, xs, hx, hl, q⟩ => ?_)
  subst hx
  cases r1
  refine wpAny_Slice ?_
  rw [evalPart_none]
  refine wpAny_pure ?_
  refine wpAny_pure ?_
  rw [evalPart_some]
  have neg : PE X (.UnaryOp .USub (.Constant (.int 1) j p0) p1) _ := pe_un un_neg pe_int
  refine thn (neg.run pins s1 σ H1 (fun y H2 => y = .int (-1) ∧ H2 = H1) I1 ⟨1, rfl, rfl, rfl⟩) fun u s2 ⟨y, H2, I2, ry, hy, hH⟩ => ?_
  subst hy hH
  obtain ⟨t, rfl⟩ := ry
  have I4 : Inv X pins σ H2 { s2 with heap := s2.heap.push { cls := .type "slice", data := .fields #[.none, .none, .int (-1) t] } } :=
    I2.kept (t' := s2.toks) fun b ob z => Heap.get?_push_of_some _ z
  obtain ⟨its, r, ht, hz⟩ := I4.tuple hl
  have nl := r.length
  refine tail_any ht.typeIs PyProof.Rows.slot_tuple_getitem.lookup ?_ (by with_unfolding_all rfl)
  refine getItem_tuple_rev ht (Heap.IsSliceOf.new ..) (by rw [List.size_toArray] <;> omega) ?_
  refine ⟨.ref _, _, I4.laid (t' := s2.toks) (o := .tup xs.reverse) (fun b ob z => Heap.get?_push_of_some _ z) (Nat.le_refl _) ?_, rfl, q.go _ (I4.hok.fresh (Nat.le_refl _))⟩
  exact ⟨by rw [List.length_reverse]; exact hz, _, valsRev r, IsTup.new _ _⟩
end

/-! ### more rules that hand on a new object -/
section
variable {X : Cx}
def rCatTN (K : PySem.W.Frag) : R2 := fun x y H Q => ∃ a b xs ys, x = .ref a ∧ y = .ref b ∧ SqT K H a xs ∧ SqT K H b ys ∧ xs ≠ [] ∧ ys ≠ [] ∧
  xs.length + ys.length ≤ sizeLine ∧ New H (.tup (xs ++ ys)) Q
theorem op_catTN : OpR X (binaryOp .Add) (rCatTN X.K) := fun pins s σ H x y v u Q I rx ry ⟨a, b, xs, ys, h1, h2, h3, h4, h5, h6, h7, q⟩ =>
  op_catT pins s σ H x y v u Q I rx ry ⟨a, b, xs, ys, h1, h2, h3, h4, h5, h7, fun z => absurd z h6, fun _ => q.go⟩
def rCatLN : R2 := fun x y H Q => ∃ l b xs zs, x = .ref l ∧ y = .ref b ∧ H l = some (.lst xs) ∧ H b = some (.lst zs) ∧ xs.length + zs.length ≤ sizeLine ∧ New H (.lst (xs ++ zs)) Q
theorem op_catLN : OpR X (binaryOp .Add) rCatLN := fun pins s σ H x y v u Q I rx ry ⟨l, b, xs, zs, h1, h2, h3, h4, h5, q⟩ =>
  op_cat pins s σ H x y v u Q I rx ry ⟨l, b, xs, zs, h1, h2, h3, h4, h5, q.go⟩
theorem call_tuple_ofN : CallR X (.type "tuple") (fun xs H Q => ∃ p ys, xs = [.ref p] ∧ SqL X.K H p ys ∧ New H (.tup ys) Q) :=
  fun pins s σ H xs us Q I r ⟨p, ys, h1, h2, q⟩ => call_tuple_of pins s σ H xs us Q I r ⟨p, ys, h1, .inl ⟨h2, q.go⟩⟩
end
end Cl

namespace Cl
open PySem PySem.Spec PyProof.Rows L2
/-! ### what two lines have in common: the mathematics -/
abbrev Pt := Int × Int
abbrev Ln := Pt × Pt
abbrev S3 := Int × Int × Int
def trn (p q : Pt) : Int := p.1 * q.2 - p.2 * q.1
def less (p q : Pt) : Pt := (p.1 - q.1, p.2 - q.2)
def sp3 (n m d : Int) : S3 := (n / spP n m d, m / spP n m d, d / spP n m d)
theorem sp3_scale {n m d t : Int} (ht : 0 < t) (hd : 0 < d) : sp3 (n * t) (m * t) (d * t) = sp3 n m d := by
  have hdt : 0 < d * t := Int.mul_pos hd ht
  have e : spP (n * t) (m * t) (d * t) = spP n m d * t := by
    unfold spP gpar
    rw [if_neg (by omega), if_neg (by omega), Int.gcd_mul_right]
    have c : (((Int.gcd n m * t.natAbs : Nat)) : Int) = (Int.gcd n m : Nat) * t := by
      rw [Int.natCast_mul, Int.natAbs_of_nonneg (by omega)]
    rw [c, Int.gcd_mul_right, Int.natCast_mul, Int.natAbs_of_nonneg (by omega)]
  unfold sp3
  rw [e, Int.mul_ediv_mul_of_pos_left _ _ ht, Int.mul_ediv_mul_of_pos_left _ _ ht, Int.mul_ediv_mul_of_pos_left _ _ ht]
/-- the shares and their bottom, the bottom above nought -/
def kfs (l r : Ln) : Int := if trn (less l.2 l.1) (less r.2 r.1) < 0 then -1 else 1
def klm (l r : Ln) : Int × Int × Int :=
  (trn (less r.1 l.1) (less r.2 r.1) * kfs l r, trn (less r.1 l.1) (less l.2 l.1) * kfs l r, trn (less l.2 l.1) (less r.2 r.1) * kfs l r)
def acr (l r : Ln) : List S3 :=
  let t := klm l r
  if (0 ≤ t.1 ∧ t.1 ≤ t.2.2) ∧ (0 ≤ t.2.1 ∧ t.2.1 ≤ t.2.2) then
    [sp3 (t.2.2 * l.1.1 + t.1 * (l.2.1 - l.1.1)) (t.2.2 * l.1.2 + t.1 * (l.2.2 - l.1.2)) t.2.2] else []
def lo (l r : Ln) : Pt := mx (mn l.1 l.2) (mn r.1 r.2)
def hi (l r : Ln) : Pt := mn (mx l.1 l.2) (mx r.1 r.2)
def alo (l r : Ln) : List S3 :=
  if llt (hi l r) (lo l r) then [] else if lo l r = hi l r then [((lo l r).1, (lo l r).2, 1)] else [((lo l r).1, (lo l r).2, 1), ((hi l r).1, (hi l r).2, 1)]
def cmn (l r : Ln) : List S3 :=
  if trn (less l.2 l.1) (less r.2 r.1) ≠ 0 then acr l r else if trn (less l.2 l.1) (less r.1 l.1) ≠ 0 then [] else alo l r
def rev (l : Ln) : Ln := (l.2, l.1)

theorem trn_neg (p q : Pt) : trn p q = -trn q p := by
  unfold trn; grind
theorem mn_comm (p q : Pt) : mn p q = mn q p := by
  obtain ⟨a, b⟩ := p
  obtain ⟨c, d⟩ := q
  unfold mn llt
  by_cases h1 : c < a ∨ (c = a ∧ d < b) <;> by_cases h2 : a < c ∨ (a = c ∧ b < d) <;> simp [h1, h2] <;> omega
theorem mx_comm (p q : Pt) : mx p q = mx q p := by
  obtain ⟨a, b⟩ := p
  obtain ⟨c, d⟩ := q
  unfold mx llt
  by_cases h1 : c < a ∨ (c = a ∧ d < b) <;> by_cases h2 : a < c ∨ (a = c ∧ b < d) <;> simp [h1, h2] <;> omega
theorem lo_swap (l r : Ln) : lo r l = lo l r := mx_comm ..
theorem hi_swap (l r : Ln) : hi r l = hi l r := mn_comm ..
theorem alo_swap (l r : Ln) : alo r l = alo l r := by unfold alo; rw [lo_swap, hi_swap]
theorem alo_rev (l r : Ln) : alo (rev l) r = alo l r := by
  unfold alo lo hi rev
  rw [mn_comm l.2, mx_comm l.2]

theorem klm_swap (l r : Ln) (h : trn (less l.2 l.1) (less r.2 r.1) ≠ 0) : klm r l = ((klm l r).2.1, (klm l r).1, (klm l r).2.2) := by
  have e := trn_neg (less r.2 r.1) (less l.2 l.1)
  have ek : kfs r l = -kfs l r := by
    unfold kfs
    rw [e]
    split <;> split <;> omega
  unfold klm
  rw [ek]
  unfold trn less
  refine Prod.ext ?_ (Prod.ext ?_ ?_) <;> simp only <;> grind
theorem klm_pos (l r : Ln) (h : trn (less l.2 l.1) (less r.2 r.1) ≠ 0) : 0 < (klm l r).2.2 := by
  show 0 < trn (less l.2 l.1) (less r.2 r.1) * kfs l r
  unfold kfs
  split <;> omega
theorem acr_swap (l r : Ln) (h : trn (less l.2 l.1) (less r.2 r.1) ≠ 0) : acr r l = acr l r := by
  unfold acr
  rw [klm_swap l r h]
  simp only
  have e1 : (klm l r).2.2 * r.1.1 + (klm l r).2.1 * (r.2.1 - r.1.1) = (klm l r).2.2 * l.1.1 + (klm l r).1 * (l.2.1 - l.1.1) := by
    unfold klm trn less
    simp only
    grind
  have e2 : (klm l r).2.2 * r.1.2 + (klm l r).2.1 * (r.2.2 - r.1.2) = (klm l r).2.2 * l.1.2 + (klm l r).1 * (l.2.2 - l.1.2) := by
    unfold klm trn less
    simp only
    grind
  rw [e1, e2]
  split <;> split <;> first | rfl | (exfalso; omega)
theorem klm_rev (l r : Ln) (h : trn (less l.2 l.1) (less r.2 r.1) ≠ 0) : klm (rev l) r = ((klm l r).2.2 - (klm l r).1, (klm l r).2.1, (klm l r).2.2) := by
  have e : trn (less l.1 l.2) (less r.2 r.1) = -trn (less l.2 l.1) (less r.2 r.1) := by unfold trn less; grind
  have ek : kfs (rev l) r = -kfs l r := by
    unfold kfs rev
    simp only
    rw [e]
    split <;> split <;> omega
  unfold klm
  rw [ek]
  unfold trn less rev
  refine Prod.ext ?_ (Prod.ext ?_ ?_) <;> simp only <;> grind
theorem acr_rev (l r : Ln) (h : trn (less l.2 l.1) (less r.2 r.1) ≠ 0) : acr (rev l) r = acr l r := by
  unfold acr
  rw [klm_rev l r h]
  simp only
  have e1 : (klm l r).2.2 * (rev l).1.1 + ((klm l r).2.2 - (klm l r).1) * ((rev l).2.1 - (rev l).1.1) = (klm l r).2.2 * l.1.1 + (klm l r).1 * (l.2.1 - l.1.1) := by
    unfold rev
    grind
  have e2 : (klm l r).2.2 * (rev l).1.2 + ((klm l r).2.2 - (klm l r).1) * ((rev l).2.2 - (rev l).1.2) = (klm l r).2.2 * l.1.2 + (klm l r).1 * (l.2.2 - l.1.2) := by
    unfold rev
    grind
  rw [e1, e2]
  split <;> split <;> first | rfl | (exfalso; omega)
theorem cmn_rev (l r : Ln) : cmn (rev l) r = cmn l r := by
  have e : trn (less l.1 l.2) (less r.2 r.1) = -trn (less l.2 l.1) (less r.2 r.1) := by unfold trn less; grind
  have e2 : trn (less l.1 l.2) (less r.1 l.2) = -trn (less l.2 l.1) (less r.1 l.1) := by unfold trn less; grind
  unfold cmn
  show (if trn (less l.1 l.2) (less r.2 r.1) ≠ 0 then acr (rev l) r else if trn (less l.1 l.2) (less r.1 l.2) ≠ 0 then [] else alo (rev l) r) = _
  rw [e, e2, alo_rev]
  by_cases h : trn (less l.2 l.1) (less r.2 r.1) = 0
  · rw [h]; by_cases h2 : trn (less l.2 l.1) (less r.1 l.1) = 0 <;> simp [h2]
  · rw [if_pos (by omega), if_pos h, acr_rev l r h]
theorem par (w u f : Pt) (hw : w ≠ (0, 0)) (h1 : trn w u = 0) (h2 : trn w f = 0) : trn u f = 0 := by
  obtain ⟨w1, w2⟩ := w
  obtain ⟨u1, u2⟩ := u
  obtain ⟨f1, f2⟩ := f
  unfold trn at *
  simp only at *
  by_cases h : w1 = 0
  · have h0 : w2 ≠ 0 := fun z => hw (by rw [h, z])
    have : w2 * (u1 * f2 - u2 * f1) = 0 := by grind
    rcases Int.mul_eq_zero.mp this with z | z
    · exact absurd z h0
    · exact z
  · have : w1 * (u1 * f2 - u2 * f1) = 0 := by grind
    rcases Int.mul_eq_zero.mp this with z | z
    · exact absurd z h
    · exact z
theorem less_ne {p q : Pt} (h : q ≠ p) : less p q ≠ (0, 0) := fun z => h (by
  obtain ⟨a, b⟩ := p
  obtain ⟨c, d⟩ := q
  unfold less at z
  injection z with z1 z2
  simp only at z1 z2
  exact Prod.ext (by simp only; omega) (by simp only; omega))
theorem cmn_swap (l r : Ln) (hl : l.1 ≠ l.2) (hr : r.1 ≠ r.2) : cmn r l = cmn l r := by
  unfold cmn
  have e := trn_neg (less r.2 r.1) (less l.2 l.1)
  by_cases h : trn (less l.2 l.1) (less r.2 r.1) = 0
  · rw [e, h, alo_swap]
    have e3 : trn (less r.2 r.1) (less l.1 r.1) = 0 ↔ trn (less l.2 l.1) (less r.1 l.1) = 0 := by
      have n1 : ∀ p : Pt, trn p (less l.1 r.1) = -trn p (less r.1 l.1) := fun p => by unfold trn less; grind
      rw [n1]
      constructor
      · intro z
        exact par _ _ _ (less_ne hr) (by rw [e, h]; rfl) (by omega)
      · intro z
        have := par _ _ _ (less_ne hl) h z
        omega
    by_cases h2 : trn (less l.2 l.1) (less r.1 l.1) = 0
    · simp [h2, e3.mpr h2]
    · simp [h2, show ¬ trn (less r.2 r.1) (less l.1 r.1) = 0 from fun z => h2 (e3.mp z)]
  · rw [if_pos (by omega), if_pos h, acr_swap l r h]
theorem cmn_rev2 (l r : Ln) (hl : l.1 ≠ l.2) (hr : r.1 ≠ r.2) : cmn l (rev r) = cmn l r := by
  rw [← cmn_swap l (rev r) hl (fun z => hr z.symm), cmn_rev, cmn_swap l r hl hr]

/-! ### along one straight line: the first and the last of what lies in both -/
def ple (p q : Pt) : Prop := llt q p = false
theorem ple_iff {p q : Pt} : ple p q ↔ ¬ (q.1 < p.1 ∨ (q.1 = p.1 ∧ q.2 < p.2)) := by
  unfold ple llt
  exact decide_eq_false_iff_not
theorem ple_refl (p : Pt) : ple p p := ple_iff.mpr (by omega)
theorem ple_trans {p q r : Pt} (h1 : ple p q) (h2 : ple q r) : ple p r := by
  rw [ple_iff] at *
  omega
theorem ple_antisymm {p q : Pt} (h1 : ple p q) (h2 : ple q p) : p = q := by
  rw [ple_iff] at *
  exact Prod.ext (by omega) (by omega)
theorem ple_of {p q : Pt} (h : llt p q = true) : ple p q := by
  have h := of_decide_eq_true h
  rw [ple_iff]
  omega
theorem mn_or (p q : Pt) : (mn p q = p ∨ mn p q = q) ∧ ple (mn p q) p ∧ ple (mn p q) q := by
  unfold mn
  cases h : llt q p with
  | true => exact ⟨.inr rfl, ple_of h, ple_refl _⟩
  | false => exact ⟨.inl rfl, ple_refl _, h⟩
theorem mx_or (p q : Pt) : (mx p q = p ∨ mx p q = q) ∧ ple p (mx p q) ∧ ple q (mx p q) := by
  unfold mx
  cases h : llt p q with
  | true => exact ⟨.inr rfl, ple_of h, ple_refl _⟩
  | false => exact ⟨.inl rfl, ple_refl _, h⟩
def within (p : Pt) (r : Ln) : Prop := ple (mn r.1 r.2) p ∧ ple p (mx r.1 r.2)
def inBoth (l r : Ln) (p : Pt) : Prop := ((p = l.1 ∨ p = l.2) ∧ within p r) ∨ ((p = r.1 ∨ p = r.2) ∧ within p l)
theorem self_in {p : Pt} {l : Ln} (h : p = l.1 ∨ p = l.2) : within p l := by
  obtain ⟨_, a2, a3⟩ := mn_or l.1 l.2
  obtain ⟨_, b2, b3⟩ := mx_or l.1 l.2
  rcases h with rfl | rfl
  · exact ⟨a2, b2⟩
  · exact ⟨a3, b3⟩
theorem inBoth_two {l r : Ln} {p : Pt} (h : inBoth l r p) : within p l ∧ within p r := by
  rcases h with ⟨h1, h2⟩ | ⟨h1, h2⟩
  · exact ⟨self_in h1, h2⟩
  · exact ⟨h2, self_in h1⟩
theorem inBoth_mid {l r : Ln} {p : Pt} (h : inBoth l r p) : ple (lo l r) p ∧ ple p (hi l r) := by
  obtain ⟨⟨a1, a2⟩, b1, b2⟩ := inBoth_two h
  unfold lo hi
  constructor
  · rcases (mx_or (mn l.1 l.2) (mn r.1 r.2)).1 with z | z <;> rw [z] <;> assumption
  · rcases (mn_or (mx l.1 l.2) (mx r.1 r.2)).1 with z | z <;> rw [z] <;> assumption
theorem lo_in {l r : Ln} (h : ple (lo l r) (hi l r)) : inBoth l r (lo l r) := by
  have hl : ple (lo l r) (mx l.1 l.2) := ple_trans h (mn_or _ _).2.1
  have hr : ple (lo l r) (mx r.1 r.2) := ple_trans h (mn_or _ _).2.2
  obtain ⟨c, d1, d2⟩ := mx_or (mn l.1 l.2) (mn r.1 r.2)
  rcases c with z | z
  · refine .inl ⟨?_, d2, hr⟩
    show lo l r = _ ∨ lo l r = _
    unfold lo; rw [z]; exact (mn_or _ _).1
  · refine .inr ⟨?_, d1, hl⟩
    show lo l r = _ ∨ lo l r = _
    unfold lo; rw [z]; exact (mn_or _ _).1
theorem hi_in {l r : Ln} (h : ple (lo l r) (hi l r)) : inBoth l r (hi l r) := by
  have hl : ple (mn l.1 l.2) (hi l r) := ple_trans (mx_or _ _).2.1 h
  have hr : ple (mn r.1 r.2) (hi l r) := ple_trans (mx_or _ _).2.2 h
  obtain ⟨c, d1, d2⟩ := mn_or (mx l.1 l.2) (mx r.1 r.2)
  rcases c with z | z
  · refine .inl ⟨?_, hr, d2⟩
    show hi l r = _ ∨ hi l r = _
    unfold hi; rw [z]; exact (mx_or _ _).1
  · refine .inr ⟨?_, hl, d1⟩
    show hi l r = _ ∨ hi l r = _
    unfold hi; rw [z]; exact (mx_or _ _).1
def one3 (p : Pt) : S3 := (p.1, p.2, 1)
theorem along_due (l r : Ln) (T : List Pt) (hs : T.Pairwise ple) (nd : T.Nodup) (mem : ∀ p, p ∈ T ↔ inBoth l r p) :
    (T.take 1 ++ (T.drop 1).drop ((T.drop 1).length - 1)).map one3 = alo l r := by
  unfold alo
  cases hh : llt (hi l r) (lo l r) with
  | true =>
    have : T = [] := by
      refine List.eq_nil_iff_forall_not_mem.mpr fun p hp => ?_
      obtain ⟨a, b⟩ := inBoth_mid ((mem p).mp hp)
      have z : ple (lo l r) (hi l r) := ple_trans a b
      unfold ple at z
      rw [hh] at z
      cases z
    subst this
    rfl
  | false =>
    have hle : ple (lo l r) (hi l r) := hh
    have m1 := (mem _).mpr (lo_in hle)
    have m2 := (mem _).mpr (hi_in hle)
    cases T with
    | nil => cases m1
    | cons a t =>
      obtain ⟨p1, p2⟩ := List.pairwise_cons.mp hs
      obtain ⟨n1, n2⟩ := List.nodup_cons.mp nd
      have ha : a = lo l r := by
        have b := (inBoth_mid ((mem a).mp List.mem_cons_self)).1
        rcases List.mem_cons.mp m1 with z | z
        · exact z.symm
        · exact ple_antisymm (p1 _ z) b
      subst ha
      rw [if_neg (by decide)]
      rcases List.eq_nil_or_concat t with rfl | ⟨t', b, rfl⟩
      · have : hi l r = lo l r := by simpa using m2
        rw [if_pos this.symm]
        rfl
      · have hb : b = hi l r := by
          have c := (inBoth_mid ((mem b).mp (List.mem_cons_of_mem _ (by simp)))).2
          refine ple_antisymm c ?_
          rcases List.mem_cons.mp m2 with z | z
          · rw [z]; exact p1 b (by simp)
          · rcases List.mem_append.mp (by simpa using z : hi l r ∈ t' ++ [b]) with z | z
            · rw [List.concat_eq_append] at p2
              exact (List.pairwise_append.mp p2).2.2 _ z _ (by simp)
            · rw [List.mem_singleton.mp z]; exact ple_refl _
        have ne : lo l r ≠ hi l r := fun z => n1 (by rw [z, ← hb]; simp)
        rw [if_neg ne]
        subst hb
        simp [one3]
end Cl

namespace Cl
open PySem PySem.Spec PyProof.Rows L2
/-! ### lines, spots and tuples of them where they stand -/
def AtL (K : PySem.W.Frag) (H : Hp) (v : V) (l : Ln) : Prop := ∃ a u w, v = .ref a ∧ SqT K H a [u, w] ∧ At2 K H u l.1 ∧ At2 K H w l.2
def At3 (K : PySem.W.Frag) (H : Hp) (v : V) (s : S3) : Prop := ∃ a, v = .ref a ∧ SqT K H a [.int s.1, .int s.2.1, .int s.2.2]
inductive AllAt {α : Type} (R : V → α → Prop) : List V → List α → Prop
  | nil : AllAt R [] []
  | cons {v : V} {x : α} {vs : List V} {xs : List α} : R v x → AllAt R vs xs → AllAt R (v :: vs) (x :: xs)
def AtS (K : PySem.W.Frag) (H : Hp) (v : V) (ss : List S3) : Prop := ∃ a vs, v = .ref a ∧ SqT K H a vs ∧ AllAt (At3 K H) vs ss
def AtP (K : PySem.W.Frag) (H : Hp) (v : V) (ps : List Pt) : Prop := ∃ a vs, v = .ref a ∧ SqT K H a vs ∧ AllAt (At2 K H) vs ps
def BdP (p : Pt) : Prop := (-(2 ^ 60) < p.1 ∧ p.1 < 2 ^ 60) ∧ (-(2 ^ 60) < p.2 ∧ p.2 < 2 ^ 60)
def BdC (p : Pt) : Prop := (-(2 ^ 40) < p.1 ∧ p.1 < 2 ^ 40) ∧ (-(2 ^ 40) < p.2 ∧ p.2 < 2 ^ 40)
def BdL (l : Ln) : Prop := BdC l.1 ∧ BdC l.2
section
variable {K : PySem.W.Frag} {H H' : Hp} {v : V}
theorem AtL.same {l : Ln} (h : AtL K H v l) (s : Same H H') : AtL K H' v l := by
  obtain ⟨a, u, w, rfl, h1, h2, h3⟩ := h
  exact ⟨a, u, w, rfl, seT s h1, h2.same s, h3.same s⟩
theorem At3.same {t : S3} (h : At3 K H v t) (s : Same H H') : At3 K H' v t := by
  obtain ⟨a, rfl, h⟩ := h
  exact ⟨a, rfl, seT s h⟩
theorem AllAt.map {α : Type} {R R' : V → α → Prop} (f : ∀ v x, R v x → R' v x) : ∀ {vs : List V} {xs : List α}, AllAt R vs xs → AllAt R' vs xs
  | _, _, .nil => .nil
  | _, _, .cons h t => .cons (f _ _ h) (AllAt.map f t)
theorem AllAt.length {α : Type} {R : V → α → Prop} : ∀ {vs : List V} {xs : List α}, AllAt R vs xs → vs.length = xs.length
  | _, _, .nil => rfl
  | _, _, .cons _ t => by rw [List.length_cons, List.length_cons, t.length]
theorem AllAt.get {α : Type} {R : V → α → Prop} : ∀ {vs : List V} {xs : List α} {i : Nat} {v : V}, AllAt R vs xs → vs[i]? = some v → ∃ x, xs[i]? = some x ∧ R v x
  | _, _, 0, v, .cons h t, e => by cases e; exact ⟨_, rfl, h⟩
  | _, _, i + 1, v, .cons h t, e => AllAt.get t (i := i) e
theorem AllAt.app {α : Type} {R : V → α → Prop} : ∀ {vs ws : List V} {xs ys : List α}, AllAt R vs xs → AllAt R ws ys → AllAt R (vs ++ ws) (xs ++ ys)
  | _, _, _, _, .nil, h => h
  | _, _, _, _, .cons a t, h => .cons a (AllAt.app t h)
theorem AtS.same {ss : List S3} (h : AtS K H v ss) (s : Same H H') : AtS K H' v ss := by
  obtain ⟨a, vs, rfl, h1, h2⟩ := h
  exact ⟨a, vs, rfl, seT s h1, h2.map fun _ _ z => z.same s⟩
theorem AtP.same {ps : List Pt} (h : AtP K H v ps) (s : Same H H') : AtP K H' v ps := by
  obtain ⟨a, vs, rfl, h1, h2⟩ := h
  exact ⟨a, vs, rfl, seT s h1, h2.map fun _ _ z => z.same s⟩
def d3 (s : S3) : PyData := .tuple [.int s.1, .int s.2.1, .int s.2.2]
theorem AtS.dp {ss : List S3} (h : AtS K H v ss) : Dp K H v (.tuple (ss.map d3)) := by
  obtain ⟨a, vs, rfl, h1, h2⟩ := h
  refine .tup h1 ?_
  clear h1
  induction h2 with
  | nil => exact .nil
  | cons h t ih =>
    obtain ⟨b, rfl, h⟩ := h
    exact .cons (.tup h (.cons (.int _) (.cons (.int _) (.cons (.int _) .nil)))) ih
theorem AtL.rev {l : Ln} {a : Addr} {xs : List V} (h : AtL K H (.ref a) l) (h2 : SqT K H a xs) : True := trivial
end
theorem bd_less {p q : Pt} (h1 : BdC p) (h2 : BdC q) : BdP (less p q) := by
  unfold BdP BdC less at *
  simp only at *
  omega
theorem BdL.rev {l : Ln} (h : BdL l) : BdL (rev l) := ⟨h.2, h.1⟩
/-! ### promises of the program's defs -/
def spStep (K : PySem.W.Frag) : Sp := fun vs H Q _ => ∃ v l, vs = [v] ∧ AtL K H v l ∧ ∀ w H', Same H H' → At2 K H' w (less l.2 l.1) → Q w H'
def spTurn (K : PySem.W.Frag) : Sp := fun vs H Q _ => ∃ u v p q, vs = [u, v] ∧ At2 K H u p ∧ At2 K H v q ∧ BdP p ∧ Q (.int (trn p q)) H
def spSide (K : PySem.W.Frag) : Sp := fun vs H Q _ => ∃ u v l p, vs = [u, v] ∧ AtL K H u l ∧ At2 K H v p ∧ BdL l ∧ ∀ H', Same H H' → Q (.int (trn (less l.2 l.1) (less p l.1))) H'
def spSpotAt (K : PySem.W.Frag) : Sp := fun vs H Q _ => ∃ v l k m, vs = [v, .int k, .int m] ∧ AtL K H v l ∧ BdL l ∧ m ≠ 0 ∧ m.natAbs < 2 ^ 200 ∧
  ∀ w H', Same H H' → At3 K H' w (sp3 (m * l.1.1 + k * (l.2.1 - l.1.1)) (m * l.1.2 + k * (l.2.2 - l.1.2)) m) → Q w H'
def spTwo (K : PySem.W.Frag) (f : Ln → Ln → List S3) (C : Ln → Ln → Prop) : Sp := fun vs H Q _ => ∃ u v l r, vs = [u, v] ∧ AtL K H u l ∧ AtL K H v r ∧ BdL l ∧ BdL r ∧ C l r ∧
  ∀ w H', Same H H' → AtS K H' w (f l r) → Q w H'
theorem trn_lt {p q : Pt} (hp : BdP p) (hq : BdP q) : (trn p q).natAbs < 2 ^ 122 := by
  unfold BdP at *
  unfold trn
  have b : ∀ a b : Int, -(2 ^ 60) < a → a < 2 ^ 60 → -(2 ^ 60) < b → b < 2 ^ 60 → (a * b).natAbs < 2 ^ 120 := fun a b h1 h2 h3 h4 => wide_lt (a := 60) (b := 60) (by omega) (by omega)
  have b1 := b p.1 q.2 (by omega) (by omega) (by omega) (by omega)
  have b2 := b p.2 q.1 (by omega) (by omega) (by omega) (by omega)
  omega

section
variable {K : PySem.W.Frag} {H H' : Hp} {v : V} {d l : Addr}
theorem stT {a : Addr} {xs : List V} (S : Step d l H H') (D : Deck H d l) (h : SqT K H a xs) : SqT K H' a xs := by
  obtain ⟨ns, s, c, h1, h2, h3⟩ := D.ex
  rcases h with (h | ⟨o, h⟩) | h
  · exact .inl (.inl (S.tupH D h))
  · exact .inl (.inr ⟨o, S.at (ne_of h h1 (by intro z; cases z)) (ne_of h h2 (by intro z; cases z)) h⟩)
  · exact .inr h
theorem At2.step {p : Pt} (h : At2 K H v p) (S : Step d l H H') (D : Deck H d l) : At2 K H' v p := by
  obtain ⟨a, rfl, h⟩ := h
  exact ⟨a, rfl, stT S D h⟩
theorem AtL.step {r : Ln} (h : AtL K H v r) (S : Step d l H H') (D : Deck H d l) : AtL K H' v r := by
  obtain ⟨a, u, w, rfl, h1, h2, h3⟩ := h
  exact ⟨a, u, w, rfl, stT S D h1, h2.step S D, h3.step S D⟩
end
def BdN (B : Int) (p : Pt) : Prop := (-B ≤ p.1 ∧ p.1 ≤ B) ∧ (-B ≤ p.2 ∧ p.2 ≤ B)
def spUnlike (K : PySem.W.Frag) : Sp := fun vs H Q _ => ∃ u v p q, vs = [u, v] ∧ At2 K H u p ∧ At2 K H v q ∧
  ∀ w H' l, Same H H' → AtL K H' w l → l.1 = p → l.1 ≠ l.2 → (l.2 = q ∨ l.2 = (p.1 + 1, p.2)) → Q w H'
def spLess (K : PySem.W.Frag) : Sp := fun vs H Q _ => ∃ u v p q, vs = [u, v] ∧ At2 K H u p ∧ At2 K H v q ∧ ∀ w H', Same H H' → At2 K H' w (less p q) → Q w H'
def spLowest (K : PySem.W.Frag) : Sp := fun vs H Q _ => ∃ n m d : Int, vs = [.int n, .int m, .int d] ∧ 0 < d ∧ d.natAbs < 2 ^ 200 ∧ ∀ w H', Same H H' → At3 K H' w (sp3 n m d) → Q w H'
def spRight (K : PySem.W.Frag) : Sp := fun vs H Q _ => ∃ u v l r, vs = [u, v] ∧ AtL K H u l ∧ AtL K H v r ∧ BdL l ∧ BdL r ∧ l.1 ≠ l.2 ∧ r.1 ≠ r.2 ∧ ∀ H', Same H H' → Q (.bl true) H'
theorem gcd_fmod (a b : Int) (h : b ≠ 0) : Int.gcd b (a.fmod b) = Int.gcd a b := by
  have e : a.fmod b = a - b * a.fdiv b := Int.fmod_def a b
  rw [e, Int.gcd_comm a b, Int.sub_eq_add_neg, ← Int.mul_neg, Int.gcd_add_mul_left_right]
theorem fmod_small (a b : Int) (h : b ≠ 0) : (a.fmod b).natAbs < b.natAbs := by
  rcases Int.lt_or_gt_of_ne h with hb | hb
  · have e1 : (-a).fmod (-b) = -(a.fmod b) := Int.neg_fmod_neg ..
    have h1 := Int.fmod_nonneg_of_pos (-a) (show 0 < -b by omega)
    have h2 := Int.fmod_lt_of_pos (-a) (show 0 < -b by omega)
    omega
  · have h1 := Int.fmod_nonneg_of_pos a hb
    have h2 := Int.fmod_lt_of_pos a hb
    omega

/-! ### what a comprehension picks of two points -/
structure Sel (K : PySem.W.Frag) (H0 : Hp) (pts : List Pt) (r : Ln) (i : Nat) (ks : List (Addr × List Int)) : Prop where
  tup : ∀ q ∈ ks, SqT K H0 q.1 (q.2.map V.int) ∧ q.2.length = 2
  len : ks.length ≤ i
  mem : ∀ x, (∃ q ∈ ks, pr q = x) ↔ ∃ j, j < i ∧ pts[j]? = some x ∧ within x r
section
variable {K : PySem.W.Frag} {H0 : Hp} {pts : List Pt} {r : Ln} {i : Nat} {ks : List (Addr × List Int)} {pt : Pt} {c : Addr}
theorem Sel.nil : Sel K H0 pts r 0 [] := ⟨fun q h => (nomatch h), Nat.le_refl _, fun x => ⟨fun ⟨q, h, _⟩ => (nomatch h), fun ⟨j, h, _⟩ => absurd h (Nat.not_lt_zero _)⟩⟩
theorem Sel.keep (S : Sel K H0 pts r i ks) (h : pts[i]? = some pt) (w : within pt r) (hc : SqT K H0 c [.int pt.1, .int pt.2]) :
    Sel K H0 pts r (i + 1) (ks ++ [(c, [pt.1, pt.2])]) := by
  refine ⟨fun q hq => ?_, by rw [List.length_append]; exact Nat.add_le_add_right S.len 1, fun x => ⟨?_, ?_⟩⟩
  · rcases List.mem_append.mp hq with z | z
    · exact S.tup q z
    · rw [List.mem_singleton.mp z]; exact ⟨hc, rfl⟩
  · rintro ⟨q, hq, e⟩
    rcases List.mem_append.mp hq with z | z
    · obtain ⟨j, a, b⟩ := (S.mem x).mp ⟨q, z, e⟩
      exact ⟨j, by omega, b⟩
    · rw [List.mem_singleton.mp z] at e
      subst e
      exact ⟨i, by omega, h, w⟩
  · rintro ⟨j, hj, a, b⟩
    by_cases e : j = i
    · subst e
      rw [h] at a
      cases a
      exact ⟨_, List.mem_append.mpr (.inr (List.mem_singleton.mpr rfl)), rfl⟩
    · obtain ⟨q, z, e2⟩ := (S.mem x).mpr ⟨j, by omega, a, b⟩
      exact ⟨q, List.mem_append.mpr (.inl z), e2⟩
theorem Sel.drop (S : Sel K H0 pts r i ks) (h : pts[i]? = some pt) (w : ¬ within pt r) : Sel K H0 pts r (i + 1) ks := by
  refine ⟨S.tup, Nat.le_succ_of_le S.len, fun x => ⟨fun z => ?_, ?_⟩⟩
  · obtain ⟨j, a, b⟩ := (S.mem x).mp z
    exact ⟨j, by omega, b⟩
  · rintro ⟨j, hj, a, b⟩
    by_cases e : j = i
    · subst e
      rw [h] at a
      cases a
      exact absurd b w
    · exact (S.mem x).mpr ⟨j, by omega, a, b⟩
theorem Sel.two {p q : Pt} (S : Sel K H0 [p, q] r 2 ks) (x : Pt) : (∃ q ∈ ks, pr q = x) ↔ (x = p ∨ x = q) ∧ within x r := by
  rw [S.mem x]
  constructor
  · rintro ⟨j, hj, a, b⟩
    match j, hj, a with
    | 0, _, a => cases a; exact ⟨.inl rfl, b⟩
    | 1, _, a => cases a; exact ⟨.inr rfl, b⟩
  · rintro ⟨a | a, b⟩
    · exact ⟨0, by omega, by rw [a]; rfl, b⟩
    · exact ⟨1, by omega, by rw [a]; rfl, b⟩
end
theorem pr_ints {q : Addr × List Int} (h : q.2.length = 2) : q.2.map V.int = [.int (pr q).1, .int (pr q).2] := by
  rw [pr_of h]
  rfl
theorem nodup_pr {L : List (Addr × List Int)} (h : ∀ q ∈ L, q.2.length = 2) (nd : (L.map (·.2)).Nodup) : (L.map pr).Nodup := by
  have e : ∀ l : List (Addr × List Int), (∀ q ∈ l, q.2.length = 2) → l.map (·.2) = (l.map pr).map fun p : Pt => [p.1, p.2] := by
    intro l
    induction l with
    | nil => intro _; rfl
    | cons q l ih =>
      intro h
      rw [List.map_cons, List.map_cons, List.map_cons, ih fun r hr => h r (List.mem_cons_of_mem _ hr), pr_of (h q List.mem_cons_self)]
  rw [e L h] at nd
  exact List.Pairwise.of_map _ (fun _ _ hne z => hne (by rw [z])) nd
theorem cut_first (xs : List V) : cutV xs none (some 1) = xs.take 1 := by
  unfold cutV
  rw [HT.sIx_none, show HT.sIx xs.length xs.length (some 1) = min 1 xs.length from HT.sIx_nat _ _ 1, List.drop_zero, Nat.sub_zero]
  cases xs with
  | nil => rfl
  | cons x r => rw [List.length_cons, Nat.min_eq_left (by omega)]
theorem cut_rest (xs : List V) : cutV xs (some 1) none = xs.drop 1 := by
  unfold cutV
  rw [HT.sIx_none, show HT.sIx xs.length 0 (some 1) = min 1 xs.length from HT.sIx_nat _ _ 1]
  cases xs with
  | nil => rfl
  | cons x r =>
    rw [List.length_cons, Nat.min_eq_left (by omega)]
    show List.take (r.length + 1 - 1) r = r
    rw [Nat.add_sub_cancel, List.take_length]
theorem cut_last (xs : List V) : cutV xs (some (-1)) none = xs.drop (xs.length - 1) := by
  unfold cutV
  have e : HT.sIx xs.length 0 (some (-1)) = xs.length - 1 := by
    show (if (-1 : Int) < 0 then ((-1 : Int) + (xs.length : Int)).toNat else min (-1 : Int).toNat xs.length) = _
    rw [if_pos (by decide)]
    omega
  rw [HT.sIx_none, e]
  exact List.take_of_length_le (by rw [List.length_drop]; omega)

/-! ### the same rules within a comprehension, the written part named -/
section
variable {X : Cx} {K : PySem.W.Frag}
theorem op_le2k (hK : X.K = K) (hu : X.A.units + 64 < cLine) : OpR X (compareOp .LtE) (rCmp2 K fun p q => !llt q p) := hK ▸ op_le2 hu
theorem op_gt2k (hK : X.K = K) (hu : X.A.units + 64 < cLine) : OpR X (compareOp .Gt) (rCmp2 K fun p q => llt q p) := hK ▸ op_gt2 hu
theorem cr_min1k (hK : X.K = K) (hc : X.calm = true) (hu : X.A.units + 64 < cLine) : CallR X (.builtin "min") (rBest1 K mn) := hK ▸ cr_min1 hc hu
theorem cr_max1k (hK : X.K = K) (hc : X.calm = true) (hu : X.A.units + 64 < cLine) : CallR X (.builtin "max") (rBest1 K mx) := hK ▸ cr_max1 hc hu
theorem op_catTNk (hK : X.K = K) : OpR X (binaryOp .Add) (rCatTN K) := hK ▸ op_catTN
theorem ix_tupk (hK : X.K = K) : IxR X (rIxT K) := hK ▸ ix_tup
theorem ix_listk (hK : X.K = K) : IxR X (rIxL K) := hK ▸ ix_list
theorem op_neDk (hK : X.K = K) (hu : X.A.units + 64 < cLine) : OpR X (compareOp .NotEq) (rNeD K) := hK ▸ op_neD hu
theorem op_eqDk (hK : X.K = K) (hu : X.A.units + 64 < cLine) : OpR X (compareOp .Eq) (rEqD K) := hK ▸ op_eqD hu
end

theorem acc3 {K : PySem.W.Frag} {H5 H' H7 : Hp} {pD p7 : Addr} {ws : List V} {ss : List S3} {t : S3} (nD : H5 pD = none) (t1 : Same H5 H') (e : H' pD = some (.lst ws))
    (all : AllAt (At3 K H') ws ss) (s7 : Same H' H7) (n7 : H' p7 = none) (g7 : H7 p7 = some (.tup [.int t.1, .int t.2.1, .int t.2.2])) (len : ss.length ≤ 900) :
    ∃ acc, H7 pD = some (.lst acc) ∧ acc.length < sizeLine ∧ (Same H5 (upd H7 pD (.lst (acc ++ [.ref p7]))) ∧
      ∃ ws', (upd H7 pD (.lst (acc ++ [.ref p7]))) pD = some (.lst ws') ∧ AllAt (At3 K (upd H7 pD (.lst (acc ++ [.ref p7])))) ws' (ss ++ [t])) := by
  have npD : pD ≠ p7 := ne_of_none e n7
  have k7 := s7 _ _ e
  have lw := all.length
  have sT : ∀ {o : HO} {b : Addr} {xs : List V}, SqT K H7 b xs → SqT K (upd H7 pD o) b xs := fun {o b xs} z => by
    rcases z with (z | ⟨oo, z⟩) | z
    · exact .inl (.inl (by rw [upd_ne (ne_of z k7 (by intro z; cases z))]; exact z))
    · exact .inl (.inr ⟨oo, by rw [upd_ne (ne_of z k7 (by intro z; cases z))]; exact z⟩)
    · exact .inr z
  refine ⟨ws, k7, small1000 (by omega), fun b o z => ?_, ws ++ [.ref p7], upd_same, ?_⟩
  · rw [upd_ne (ne_of_none z nD)]
    exact (t1.trans s7) _ _ z
  · refine AllAt.app (all.map fun v s h => ?_) (.cons ⟨p7, rfl, .inl (.inl ?_)⟩ .nil)
    · obtain ⟨b, rfl, h9⟩ := h.same s7
      exact ⟨b, rfl, sT h9⟩
    · rw [upd_ne npD.symm]
      exact g7
end Cl

namespace Cl
open PySem PySem.Spec PyProof.Rows L2
/-! ### what two lines have in common is shown shortly -/
def ok3 (s : S3) : Prop := okI s.1 ∧ okI s.2.1 ∧ okI s.2.2
theorem okI.sh {i : Int} (h : okI i) : i.natAbs.log2 < 1920 := by have := h.log; omega
theorem fine3 : ∀ {ss : List S3}, ss.length ≤ 2 → (∀ s ∈ ss, ok3 s) → Fine (.tuple (ss.map d3))
  | [], _, _ => by constructor <;> decide
  | [a], _, h => by
    obtain ⟨h1, h2, h3⟩ := h a (by simp)
    have a1 := h1.len
    have a2 := h2.len
    have a3 := h3.len
    have b1 := h1.sh
    have b2 := h2.sh
    have b3 := h3.sh
    constructor
    · simp [d3, PyData.leavesShort, PyData.leavesShortAll, a1, a2, a3]
    · simp [d3, PyData.showable, PyData.showableAll, b1, b2, b3]
    · rfl
    · simp [d3, PyData.depth, PyData.depthAll]
    · simp [d3, PyData.bulk, PyData.bulkAll]
  | [a, b], _, h => by
    obtain ⟨h1, h2, h3⟩ := h a (by simp)
    obtain ⟨g1, g2, g3⟩ := h b (by simp)
    have a1 := h1.len
    have a2 := h2.len
    have a3 := h3.len
    have b1 := h1.sh
    have b2 := h2.sh
    have b3 := h3.sh
    have c1 := g1.len
    have c2 := g2.len
    have c3 := g3.len
    have e1 := g1.sh
    have e2 := g2.sh
    have e3 := g3.sh
    constructor
    · simp [d3, PyData.leavesShort, PyData.leavesShortAll, a1, a2, a3, c1, c2, c3]
    · simp [d3, PyData.showable, PyData.showableAll, b1, b2, b3, e1, e2, e3]
    · rfl
    · simp [d3, PyData.depth, PyData.depthAll]
    · simp [d3, PyData.bulk, PyData.bulkAll]
theorem BdC.or {p q r : Pt} (hp : BdC p) (hq : BdC q) (h : r = p ∨ r = q) : BdC r := by rcases h with rfl | rfl <;> assumption
theorem ok_one3 {p : Pt} (h : BdC p) : ok3 (one3 p) := by
  unfold BdC at h
  exact ⟨okI.of (show -(2 ^ 189) < p.1 by omega) (show p.1 < 2 ^ 189 by omega), okI.of (show -(2 ^ 189) < p.2 by omega) (show p.2 < 2 ^ 189 by omega), okI.of (show -(2 ^ 189) < (1 : Int) by omega) (show (1 : Int) < 2 ^ 189 by omega)⟩
theorem okI_div {n p : Int} (h : n.natAbs < 2 ^ 190) : okI (n / p) := Nat.lt_of_le_of_lt (Int.natAbs_ediv_le_natAbs n p) h
theorem fine_cmn {l r : Ln} (bl : BdL l) (br : BdL r) : Fine (.tuple ((cmn l r).map d3)) := by
  have b1 := bd_less bl.2 bl.1
  have b2 := bd_less br.2 br.1
  have b3 := bd_less br.1 bl.1
  have t1 := trn_lt b1 b2
  have t2 := trn_lt b3 b2
  have kM : (klm l r).2.2.natAbs < 2 ^ 122 := by
    show (trn (less l.2 l.1) (less r.2 r.1) * kfs l r).natAbs < 2 ^ 122
    unfold kfs
    split <;> omega
  have kN : (klm l r).1.natAbs < 2 ^ 122 := by
    show (trn (less r.1 l.1) (less r.2 r.1) * kfs l r).natAbs < 2 ^ 122
    unfold kfs
    split <;> omega
  have hlo : BdC (lo l r) := by
    obtain ⟨c, _⟩ := mx_or (mn l.1 l.2) (mn r.1 r.2)
    exact BdC.or (BdC.or bl.1 bl.2 (mn_or l.1 l.2).1) (BdC.or br.1 br.2 (mn_or r.1 r.2).1) c
  have hhi : BdC (hi l r) := by
    obtain ⟨c, _⟩ := mn_or (mx l.1 l.2) (mx r.1 r.2)
    exact BdC.or (BdC.or bl.1 bl.2 (mx_or l.1 l.2).1) (BdC.or br.1 br.2 (mx_or r.1 r.2).1) c
  unfold cmn
  split
  · unfold acr
    simp only
    split
    · refine fine3 (by simp) fun s hs => ?_
      rw [List.mem_singleton.mp hs]
      obtain ⟨⟨x1, x2⟩, x3, x4⟩ := bl.1
      unfold BdP less at b1
      obtain ⟨⟨y1, y2⟩, y3, y4⟩ := b1
      simp only at y1 y2 y3 y4
      have m1 := wide_lt (i := (klm l r).2.2) (j := l.1.1) (a := 122) (b := 40) kM (by omega)
      have m2 := wide_lt (i := (klm l r).2.2) (j := l.1.2) (a := 122) (b := 40) kM (by omega)
      have m3 := wide_lt (i := (klm l r).1) (j := l.2.1 - l.1.1) (a := 122) (b := 60) kN (by omega)
      have m4 := wide_lt (i := (klm l r).1) (j := l.2.2 - l.1.2) (a := 122) (b := 60) kN (by omega)
      exact ⟨okI_div (by omega), okI_div (by omega), okI_div (by omega)⟩
    · exact fine3 (by simp) fun s hs => nomatch hs
  · split
    · exact fine3 (by simp) fun s hs => nomatch hs
    · unfold alo
      split
      · exact fine3 (by simp) fun s hs => nomatch hs
      · split
        · refine fine3 (by simp) fun s hs => ?_
          rw [List.mem_singleton.mp hs]
          exact ok_one3 hlo
        · refine fine3 (by simp) fun s hs => ?_
          rcases List.mem_cons.mp hs with rfl | hs
          · exact ok_one3 hlo
          · rw [List.mem_singleton.mp hs]
            exact ok_one3 hhi

/-! ### a list that is written to: tuples and the deck stay -/
section
variable {K : PySem.W.Frag} {H : Hp} {M d l : Addr} {xs : List V} {o : HO} {v : V}
theorem updT {b : Addr} {ys : List V} (e : H M = some (.lst xs)) (h : SqT K H b ys) : SqT K (upd H M o) b ys := by
  rcases h with (z | ⟨oo, z⟩) | z
  · exact .inl (.inl (by rw [upd_ne (ne_of z e (by intro z; cases z))]; exact z))
  · exact .inl (.inr ⟨oo, by rw [upd_ne (ne_of z e (by intro z; cases z))]; exact z⟩)
  · exact .inr z
theorem At2.upd {p : Pt} (h : At2 K H v p) (e : H M = some (.lst xs)) : At2 K (upd H M o) v p := by
  obtain ⟨a, rfl, h⟩ := h
  exact ⟨a, rfl, updT e h⟩
theorem AtL.upd {r : Ln} (h : AtL K H v r) (e : H M = some (.lst xs)) : AtL K (L2.upd H M o) v r := by
  obtain ⟨a, u, w, rfl, h1, h2, h3⟩ := h
  exact ⟨a, u, w, rfl, updT e h1, At2.upd h2 e, At2.upd h3 e⟩
theorem Deck.upd (D : Deck H d l) (h1 : M ≠ d) (h2 : M ≠ l) : Deck (L2.upd H M o) d l := by
  obtain ⟨ns, s, c, e1, e2, e3⟩ := D.ex
  exact ⟨D.ne, ns, s, c, by rw [upd_ne h1.symm]; exact e1, by rw [upd_ne h2.symm]; exact e2, e3⟩
end
/-! ### lines drawn -/
def GoodLn (B : Int) (r : Ln) : Prop := BdN B r.1 ∧ BdN B r.2 ∧ r.1 ≠ r.2
def spPoint (K : PySem.W.Frag) : Sp := fun vs H Q _ => ∃ (d l : Addr) (g : Int), vs = [.ref d, .int g] ∧ 0 < g ∧ g ≤ 10 ∧ Deck H d l ∧
  ∀ w H' p, Step d l H H' → At2 K H' w p → BdN 100 p → Q w H'
def spBeside (K : PySem.W.Frag) : Sp := fun vs H Q _ => ∃ (d l : Addr) (v u w : V) (r : Ln) (p q : Pt), vs = [.ref d, v, u, w] ∧ Deck H d l ∧ AtL K H v r ∧ GoodLn 200 r ∧
  At2 K H u p ∧ BdN 100 p ∧ At2 K H w q ∧ BdN 100 q ∧ ∀ w H' r', Step d l H H' → AtL K H' w r' → GoodLn 3000 r' → Q w H'
def spLine (K : PySem.W.Frag) : Sp := fun vs H Q _ => ∃ (d l : Addr) (g : Int) (L : Addr) (ws : List V) (ls : List Ln), vs = [.ref d, .int g, .ref L] ∧ 0 < g ∧ g ≤ 10 ∧ Deck H d l ∧
  L ≠ d ∧ L ≠ l ∧ H L = some (.lst ws) ∧ AllAt (AtL K H) ws ls ∧ ls.length ≤ 10 ∧ (∀ r ∈ ls, GoodLn 3000 r) ∧
  ∀ w H' r', Step d l H H' → AtL K H' w r' → GoodLn 3000 r' → Q w H'
def AtT (K : PySem.W.Frag) (H : Hp) (v : V) (ls : List Ln) : Prop := ∃ a vs, v = .ref a ∧ SqT K H a vs ∧ AllAt (AtL K H) vs ls
def spLines (K : PySem.W.Frag) (n : Nat) : Sp := fun vs H Q _ => ∃ (d l : Addr) (g : Int), vs = [.ref d, .int g, .int n] ∧ 0 < g ∧ g ≤ 10 ∧ Deck H d l ∧
  ∀ w H' ls, Step d l H H' → AtT K H' w ls → ls.length = n → (∀ r ∈ ls, BdL r ∧ r.1 ≠ r.2) → Q w H'
def dl (r : Ln) : PyData := .tuple [pd r.1, pd r.2]
theorem AtL.dp {K : PySem.W.Frag} {H : Hp} {v : V} {r : Ln} (h : AtL K H v r) : Dp K H v (dl r) := by
  obtain ⟨a, u, w, rfl, h1, h2, h3⟩ := h
  exact .tup h1 (.cons h2.dp (.cons h3.dp .nil))
theorem lines_dp {K : PySem.W.Frag} {H : Hp} : ∀ {ws : List V} {ls : List Ln}, AllAt (AtL K H) ws ls → DpAll K H ws (ls.map dl)
  | _, _, .nil => .nil
  | _, _, .cons h t => .cons h.dp (lines_dp t)
theorem shapedLines (ls : List Ln) : SeqAt.shaped (.list (ls.map dl)) = true := by
  have h1 : ∀ ls : List Ln, PyData.canLayAll0 (ls.map dl) = true := by
    intro ls
    induction ls with
    | nil => rfl
    | cons n r ih => simp [PyData.canLayAll0, PyData.canLay0, dl, pd, ih]
  have h2 : ∀ ls : List Ln, PyData.depthAll (ls.map dl) ≤ 2 := by
    intro ls
    induction ls with
    | nil => decide
    | cons n r ih =>
      simp only [List.map_cons, PyData.depthAll]
      have : (dl n).depth = 2 := by simp [dl, pd, PyData.depth, PyData.depthAll]
      omega
  have h3 := h2 ls
  simp [SeqAt.shaped, PyData.canLay0, PyData.depth, h1]
  omega
theorem eqvNilL (ls : List Ln) : PyData.eqv (.list (ls.map dl)) (.list []) = ls.isEmpty := by
  cases ls <;> simp [PyData.eqv, PyData.eqvAll]
theorem AllAt.three {α : Type} {R : V → α → Prop} {vs : List V} {xs : List α} (h : AllAt R vs xs) (l : xs.length = 3) :
    ∃ v0 v1 v2 x0 x1 x2, vs = [v0, v1, v2] ∧ xs = [x0, x1, x2] ∧ R v0 x0 ∧ R v1 x1 ∧ R v2 x2 := by
  cases h with
  | nil => cases l
  | cons h0 h =>
    cases h with
    | nil => cases l
    | cons h1 h =>
      cases h with
      | nil => cases l
      | cons h2 h =>
        cases h with
        | nil => exact ⟨_, _, _, _, _, _, rfl, rfl, h0, h1, h2⟩
        | cons _ _ => simp at l
end Cl

namespace Cl
open PySem PySem.Spec PyProof.Rows L2
/-! ### what part of a line lies in a cell -/
abbrev Sh := Int × Int
def later (a b : Sh) : Sh := if a.1 * b.2 < b.1 * a.2 then b else a
def soon (a b : Sh) : Sh := if b.1 * a.2 < a.1 * b.2 then b else a
theorem frac_le {a b c d e f : Int} (h1 : a * d ≤ c * b) (h2 : c * f ≤ e * d) (hb : 0 < b) (hd : 0 < d) (hf : 0 < f) : a * f ≤ e * b := by
  refine Int.le_of_mul_le_mul_right (a := d) ?_ hd
  have k1 := Int.mul_le_mul_of_nonneg_right h1 (Int.le_of_lt hf)
  have k2 := Int.mul_le_mul_of_nonneg_right h2 (Int.le_of_lt hb)
  grind
theorem later_le {a b : Sh} {p q : Int} (ha : 0 < a.2) (hb : 0 < b.2) (hq : 0 < q) :
    ((later a b).1 * q ≤ p * (later a b).2) ↔ (a.1 * q ≤ p * a.2 ∧ b.1 * q ≤ p * b.2) := by
  unfold later
  split
  · rename_i h
    exact ⟨fun z => ⟨frac_le (Int.le_of_lt h) z ha hb hq, z⟩, fun z => z.2⟩
  · rename_i h
    exact ⟨fun z => ⟨z, frac_le (Int.not_lt.mp h) z hb ha hq⟩, fun z => z.1⟩
theorem soon_le {a b : Sh} {p q : Int} (ha : 0 < a.2) (hb : 0 < b.2) (hq : 0 < q) :
    (p * (soon a b).2 ≤ (soon a b).1 * q) ↔ (p * a.2 ≤ a.1 * q ∧ p * b.2 ≤ b.1 * q) := by
  unfold soon
  split
  · rename_i h
    exact ⟨fun z => ⟨frac_le z (Int.le_of_lt h) hq hb ha, z⟩, fun z => z.2⟩
  · rename_i h
    exact ⟨fun z => ⟨z, frac_le z (Int.not_lt.mp h) hq ha hb⟩, fun z => z.1⟩
theorem later_pos {a b : Sh} (ha : 0 < a.2) (hb : 0 < b.2) : 0 < (later a b).2 := by unfold later; split <;> assumption
theorem soon_pos {a b : Sh} (ha : 0 < a.2) (hb : 0 < b.2) : 0 < (soon a b).2 := by unfold soon; split <;> assumption
/-- the point at the share p of q lies in the cell's row or column, the greater side not with it -/
def HO1 (g start step num p q : Int) : Prop := (2 * num - 1) * g * q ≤ 2 * (start * q + step * p) ∧ 2 * (start * q + step * p) < (2 * num + 1) * g * q
def CL1 (g start step num p q : Int) : Prop := (2 * num - 1) * g * q ≤ 2 * (start * q + step * p) ∧ 2 * (start * q + step * p) ≤ (2 * num + 1) * g * q
def inc (f l : Sh) (step near far : Int) : Option (Sh × Sh) :=
  if step = 0 then (if near > 0 ∨ far < 0 then none else some (f, l))
  else if step < 0 then some (later f (-far, 2 * -step), soon l (-near, 2 * -step)) else some (later f (near, 2 * step), soon l (far, 2 * step))
theorem cl1_iff (g start step num p q : Int) : CL1 g start step num p q ↔ (((2 * num - 1) * g - 2 * start) * q ≤ 2 * step * p ∧ 2 * step * p ≤ ((2 * num + 1) * g - 2 * start) * q) := by
  unfold CL1
  constructor <;> intro h <;> constructor <;> grind
theorem inc_none {g start step num : Int} {f l : Sh} (h : inc f l step ((2 * num - 1) * g - 2 * start) ((2 * num + 1) * g - 2 * start) = none) {p q : Int} (hq : 0 < q) : ¬ CL1 g start step num p q := by
  unfold inc at h
  split at h
  · rename_i hs
    split at h
    · rename_i hz
      rw [cl1_iff, hs]
      intro ⟨k1, k2⟩
      rcases hz with z | z
      · have := Int.mul_pos z hq
        omega
      · have := Int.mul_pos (show 0 < -((2 * num + 1) * g - 2 * start) by omega) hq
        rw [Int.neg_mul] at this
        omega
    · cases h
  · split at h <;> cases h
theorem inc_some {g start step num : Int} {f l f' l' : Sh} (hf : 0 < f.2) (hl : 0 < l.2) (h : inc f l step ((2 * num - 1) * g - 2 * start) ((2 * num + 1) * g - 2 * start) = some (f', l')) :
    0 < f'.2 ∧ 0 < l'.2 ∧ ∀ p q : Int, 0 < q → ((f.1 * q ≤ p * f.2 ∧ p * l.2 ≤ l.1 * q ∧ CL1 g start step num p q) ↔ (f'.1 * q ≤ p * f'.2 ∧ p * l'.2 ≤ l'.1 * q)) := by
  unfold inc at h
  split at h
  · rename_i hs
    split at h
    · cases h
    · rename_i hz
      cases h
      refine ⟨hf, hl, fun p q hq => ⟨fun z => ⟨z.1, z.2.1⟩, fun z => ⟨z.1, z.2, ?_⟩⟩⟩
      rw [cl1_iff, hs]
      have h1 : ((2 * num - 1) * g - 2 * start) ≤ 0 := by omega
      have h2 : 0 ≤ ((2 * num + 1) * g - 2 * start) := by omega
      have := Int.mul_le_mul_of_nonneg_right h1 (Int.le_of_lt hq)
      have := Int.mul_nonneg h2 (Int.le_of_lt hq)
      omega
  · rename_i hs
    split at h
    · rename_i hz
      cases h
      have h2 : (0 : Int) < 2 * -step := by omega
      refine ⟨later_pos hf h2, soon_pos hl h2, fun p q hq => ?_⟩
      rw [later_le hf h2 hq, soon_le hl h2 hq, cl1_iff]
      simp only
      constructor
      · intro ⟨a, b, c, d⟩
        refine ⟨⟨a, ?_⟩, b, ?_⟩ <;> grind
      · intro ⟨⟨a, c⟩, b, d⟩
        refine ⟨a, b, ?_, ?_⟩ <;> grind
    · rename_i hz
      cases h
      have h2 : (0 : Int) < 2 * step := by omega
      refine ⟨later_pos hf h2, soon_pos hl h2, fun p q hq => ?_⟩
      rw [later_le hf h2 hq, soon_le hl h2 hq, cl1_iff]
      simp only
      constructor
      · intro ⟨a, b, c, d⟩
        refine ⟨⟨a, ?_⟩, b, ?_⟩ <;> grind
      · intro ⟨⟨a, c⟩, b, d⟩
        refine ⟨a, b, ?_, ?_⟩ <;> grind
def HOc (g : Int) (r : Ln) (c : Pt) (p q : Int) : Prop := HO1 g r.1.1 (r.2.1 - r.1.1) c.1 p q ∧ HO1 g r.1.2 (r.2.2 - r.1.2) c.2 p q
def Meets (g : Int) (r : Ln) (c : Pt) : Prop := ∃ p q : Int, 0 < q ∧ 0 ≤ p ∧ p ≤ q ∧ HOc g r c p q
def rimL (g n : Int) : Int := (2 * n - 1) * g
def rimH (g n : Int) : Int := (2 * n + 1) * g
def sharesW (g : Int) (r : Ln) (c : Pt) : Option (Sh × Sh) :=
  match inc (0, 1) (1, 1) (r.2.1 - r.1.1) (rimL g c.1 - 2 * r.1.1) (rimH g c.1 - 2 * r.1.1) with
  | none => none
  | some (f, l) => match inc f l (r.2.2 - r.1.2) (rimL g c.2 - 2 * r.1.2) (rimH g c.2 - 2 * r.1.2) with
    | none => none
    | some (f, l) => if l.1 * f.2 < f.1 * l.2 then none else some (f, l)
def midP (f l : Sh) : Int := f.1 * l.2 + l.1 * f.2
def midQ (f l : Sh) : Int := 2 * f.2 * l.2
theorem sharesW_none {g : Int} {r : Ln} {c : Pt} (h : sharesW g r c = none) : ¬ Meets g r c := by
  intro ⟨p, q, hq, h0, h1, ha, hb⟩
  have ca : CL1 g r.1.1 (r.2.1 - r.1.1) c.1 p q := ⟨ha.1, Int.le_of_lt ha.2⟩
  have cb : CL1 g r.1.2 (r.2.2 - r.1.2) c.2 p q := ⟨hb.1, Int.le_of_lt hb.2⟩
  unfold sharesW rimL rimH at h
  split at h
  · exact inc_none (by assumption) hq ca
  · rename_i f l e1
    obtain ⟨f2, l2, k1⟩ := inc_some (by decide) (by decide) e1
    have k1 := (k1 p q hq).mp ⟨by simp only; omega, by simp only; omega, ca⟩
    split at h
    · exact inc_none (by assumption) hq cb
    · rename_i f' l' e2
      obtain ⟨f3, l3, k2⟩ := inc_some f2 l2 e2
      have k2 := (k2 p q hq).mp ⟨k1.1, k1.2, cb⟩
      split at h
      · rename_i z
        have := frac_le k2.1 k2.2 f3 hq l3
        omega
      · cases h
theorem sharesW_some {g : Int} {r : Ln} {c : Pt} {f l : Sh} (h : sharesW g r c = some (f, l)) :
    0 < f.2 ∧ 0 < l.2 ∧ f.1 * l.2 ≤ l.1 * f.2 ∧ ∀ p q : Int, 0 < q → ((0 ≤ p ∧ p ≤ q ∧ CL1 g r.1.1 (r.2.1 - r.1.1) c.1 p q ∧ CL1 g r.1.2 (r.2.2 - r.1.2) c.2 p q) ↔ (f.1 * q ≤ p * f.2 ∧ p * l.2 ≤ l.1 * q)) := by
  unfold sharesW rimL rimH at h
  split at h
  · cases h
  · rename_i f1 l1 e1
    obtain ⟨f2, l2, k1⟩ := inc_some (by decide) (by decide) e1
    split at h
    · cases h
    · rename_i f' l' e2
      obtain ⟨f3, l3, k2⟩ := inc_some f2 l2 e2
      split at h
      · cases h
      · rename_i z
        cases h
        refine ⟨f3, l3, by omega, fun p q hq => ⟨fun w => (k2 p q hq).mp ?_, fun w => ?_⟩⟩
        · have := (k1 p q hq).mp ⟨by simp only; omega, by simp only; omega, w.2.2.1⟩
          exact ⟨this.1, this.2, w.2.2.2⟩
        · obtain ⟨a, b, d⟩ := (k2 p q hq).mpr w
          obtain ⟨a', b', d'⟩ := (k1 p q hq).mpr ⟨a, b⟩
          simp only at a' b'
          exact ⟨by omega, by omega, d', d⟩
theorem at_end {a s p q z n F : Int} (w : 2 * (a * q + s * p) * n < F * q * n) (w2 : 2 * (a * n + s * z) * q = F * n * q) (k : s * (z * q) ≤ s * (p * n)) : False := by
  have e1 : 2 * (a * q + s * p) * n = 2 * (a * q * n) + 2 * (s * (p * n)) := by grind
  have e2 : 2 * (a * n + s * z) * q = 2 * (a * q * n) + 2 * (s * (z * q)) := by grind
  have e3 : F * n * q = F * q * n := Int.mul_right_comm ..
  omega
theorem ends_eq {a s k l m n F : Int} (e : 2 * (a * (2 * m * n) + s * (k * n + l * m)) = F * (2 * m * n)) (e1 : 2 * (a * m + s * k) * n ≤ F * m * n) (e2 : 2 * (a * n + s * l) * m ≤ F * n * m) :
    2 * (a * m + s * k) * n = F * m * n ∧ 2 * (a * n + s * l) * m = F * n * m := by
  have c1 : 2 * (a * (2 * m * n) + s * (k * n + l * m)) = 2 * (a * m + s * k) * n + 2 * (a * n + s * l) * m := by grind
  have c2 : F * (2 * m * n) = F * m * n + F * n * m := by grind
  omega
/-- the middle of the part within lies in the cell, or nothing does -/
theorem meets_mid {g : Int} {r : Ln} {c : Pt} {f l : Sh} (h : sharesW g r c = some (f, l)) : Meets g r c ↔ HOc g r c (midP f l) (midQ f l) := by
  obtain ⟨f2, l2, fl, k⟩ := sharesW_some h
  have hQ : 0 < midQ f l := Int.mul_pos (by omega) l2
  have hm : f.1 * midQ f l ≤ midP f l * f.2 ∧ midP f l * l.2 ≤ l.1 * midQ f l := by
    unfold midP midQ
    have a1 := Int.mul_le_mul_of_nonneg_right fl (Int.le_of_lt f2)
    have a2 := Int.mul_le_mul_of_nonneg_right fl (Int.le_of_lt l2)
    constructor <;> grind
  obtain ⟨m0, m1, ca, cb⟩ := (k _ _ hQ).mpr hm
  constructor
  · intro ⟨p, q, hq, h0, h1, ha, hb⟩
    have kt := (k p q hq).mp ⟨h0, h1, ⟨ha.1, Int.le_of_lt ha.2⟩, ⟨hb.1, Int.le_of_lt hb.2⟩⟩
    have kf := (k f.1 f.2 f2).mpr ⟨Int.le_refl _, fl⟩
    have kl := (k l.1 l.2 l2).mpr ⟨fl, Int.le_refl _⟩
    have one : ∀ start step num : Int, HO1 g start step num p q → CL1 g start step num f.1 f.2 → CL1 g start step num l.1 l.2 → CL1 g start step num (midP f l) (midQ f l) → HO1 g start step num (midP f l) (midQ f l) := by
      intro start step num ht hf hl hmid
      refine ⟨hmid.1, Int.lt_iff_le_and_ne.mpr ⟨hmid.2, fun e => ?_⟩⟩
      -- both ends lie at the greater side
      have e1 : 2 * (start * f.2 + step * f.1) * l.2 ≤ (2 * num + 1) * g * f.2 * l.2 := Int.mul_le_mul_of_nonneg_right hf.2 (Int.le_of_lt l2)
      have e2 : 2 * (start * l.2 + step * l.1) * f.2 ≤ (2 * num + 1) * g * l.2 * f.2 := Int.mul_le_mul_of_nonneg_right hl.2 (Int.le_of_lt f2)
      obtain ⟨s1, s2⟩ := ends_eq e e1 e2
      have t1 : 2 * (start * f.2 + step * f.1) = (2 * num + 1) * g * f.2 := Int.eq_of_mul_eq_mul_right (by omega) s1
      have t2 : 2 * (start * l.2 + step * l.1) = (2 * num + 1) * g * l.2 := Int.eq_of_mul_eq_mul_right (by omega) s2
      have ht2 := ht.2
      rcases Int.lt_or_le step 0 with hs | hs
      · have k3 := Int.mul_le_mul_of_nonneg_left kt.2 (show 0 ≤ -step by omega)
        rw [Int.neg_mul, Int.neg_mul] at k3
        exact at_end (Int.mul_lt_mul_of_pos_right ht2 l2) (by rw [t2]) (by omega)
      · have k3 := Int.mul_le_mul_of_nonneg_left kt.1 hs
        exact at_end (Int.mul_lt_mul_of_pos_right ht2 f2) (by rw [t1]) k3
    exact ⟨one _ _ _ ha kf.2.2.1 kl.2.2.1 ca, one _ _ _ hb kf.2.2.2 kl.2.2.2 cb⟩
  · intro w
    exact ⟨_, _, hQ, m0, m1, w⟩
end Cl

namespace Cl
open PySem PySem.Spec PyProof.Rows L2
/-! ### shares that are tried one by one -/
/-- of a rising list: what N parted by q is, is in it, or lies strictly between two neighbours -/
theorem consec {q N : Int} (hq : 0 < q) : ∀ (L : List Int), L.Pairwise (· ≤ ·) → (∃ a ∈ L, a * q ≤ N) → (∃ b ∈ L, N ≤ b * q) →
    (∃ a ∈ L, a * q = N) ∨ ∃ a b, (a, b) ∈ L.dropLast.zip L.tail ∧ a * q < N ∧ N < b * q ∧ ∀ c ∈ L, c ≤ a ∨ b ≤ c
  | [], _, ⟨_, h, _⟩, _ => nomatch h
  | [a], _, ⟨x, hx, h1⟩, ⟨y, hy, h2⟩ => by
    rw [List.mem_singleton] at hx hy
    subst hx
    subst hy
    exact .inl ⟨_, List.mem_singleton_self _, Int.le_antisymm h1 h2⟩
  | a :: b :: r, hp, ⟨x, hx, h1⟩, ⟨y, hy, h2⟩ => by
    have ha : ∀ {z : Int}, z ∈ b :: r → a ≤ z := fun h => List.rel_of_pairwise_cons hp h
    have hp2 := List.Pairwise.of_cons hp
    have hax : a * q ≤ N := by
      rcases List.mem_cons.mp hx with rfl | hx
      · exact h1
      · exact Int.le_trans (Int.mul_le_mul_of_nonneg_right (ha hx) (Int.le_of_lt hq)) h1
    rcases Int.lt_or_le N (b * q) with hb | hb
    · rcases Int.lt_or_eq_of_le hax with h | h
      · refine .inr ⟨a, b, ?_, h, hb, fun c hc => ?_⟩
        · simp
        · rcases List.mem_cons.mp hc with rfl | hc
          · exact .inl (Int.le_refl _)
          · rcases List.mem_cons.mp hc with rfl | hc
            · exact .inr (Int.le_refl _)
            · exact .inr (List.rel_of_pairwise_cons hp2 hc)
      · exact .inl ⟨a, List.mem_cons_self .., h⟩
    · have hy2 : ∃ y ∈ b :: r, N ≤ y * q := by
        rcases List.mem_cons.mp hy with rfl | hy
        · exact ⟨b, List.mem_cons_self .., Int.le_trans h2 (Int.mul_le_mul_of_nonneg_right (ha (List.mem_cons_self ..)) (Int.le_of_lt hq))⟩
        · exact ⟨y, hy, h2⟩
      rcases consec hq (b :: r) hp2 ⟨b, List.mem_cons_self .., hb⟩ hy2 with ⟨z, hz, e⟩ | ⟨u, v, hz, k1, k2, k3⟩
      · exact .inl ⟨z, List.mem_cons_of_mem _ hz, e⟩
      · refine .inr ⟨u, v, ?_, k1, k2, fun c hc => ?_⟩
        · show (u, v) ∈ (a :: (b :: r).dropLast).zip ((b :: r).tail.cons b)
          simp only [List.tail_cons, List.zip_cons_cons, List.mem_cons]
          exact .inr hz
        · rcases List.mem_cons.mp hc with rfl | hc
          · left
            have hub : b ≤ u ∨ u < b := by omega
            rcases k3 b (List.mem_cons_self ..) with h | h
            · exact Int.le_trans (ha (List.mem_cons_self ..)) h
            · have : v * q ≤ b * q := Int.mul_le_mul_of_nonneg_right h (Int.le_of_lt hq)
              omega
          · exact k3 c hc
/-- one of the two rows: where what lies at the share p of q lies in it, so what lies at s, no crossing of its sides being strictly between -/
theorem row_mid {g start step num W p q a b s : Int} (hW : 0 < W) (hq : 0 < q) (ht : HO1 g start step num p q) (h1 : a * q < 2 * W * p) (h2 : 2 * W * p < b * q) (m1 : a < s) (m2 : s < b)
    (hc : step ≠ 0 → ∀ side ∈ [rimL g num, rimH g num], ∃ c : Int, 2 * step * c = (side - 2 * start) * W ∧ (2 * c ≤ a ∨ b ≤ 2 * c)) : HO1 g start step num s (2 * W) := by
  obtain ⟨t1, t2⟩ := ht
  have W2 : 0 < 2 * W := by omega
  by_cases hs : step = 0
  · subst hs
    have e1 : (2 * num - 1) * g ≤ 2 * start := Int.le_of_mul_le_mul_right (a := q) (by
      have : 2 * (start * q + 0 * p) = 2 * start * q := by rw [Int.zero_mul, Int.add_zero, Int.mul_assoc]
      omega) hq
    have e2 : 2 * start < (2 * num + 1) * g := Int.lt_of_mul_lt_mul_right (a := q) (by
      have : 2 * (start * q + 0 * p) = 2 * start * q := by rw [Int.zero_mul, Int.add_zero, Int.mul_assoc]
      omega) (Int.le_of_lt hq)
    have k : 2 * (start * (2 * W) + 0 * s) = 2 * start * (2 * W) := by rw [Int.zero_mul, Int.add_zero, Int.mul_assoc]
    refine ⟨?_, ?_⟩
    · rw [k]; exact Int.mul_le_mul_of_nonneg_right e1 (Int.le_of_lt W2)
    · rw [k]; exact Int.mul_lt_mul_of_pos_right e2 W2
  · obtain ⟨c1, e1, n1⟩ := hc hs (rimL g num) (by simp)
    obtain ⟨c2, e2, n2⟩ := hc hs (rimH g num) (by simp)
    unfold rimL at e1
    unfold rimH at e2
    unfold HO1
    generalize (2 * num - 1) * g = lo at *
    generalize (2 * num + 1) * g = hi at *
    -- times 2 W: step (2 W p - 2 c1 q) ≥ 0, step (2 W p - 2 c2 q) < 0
    have f1 := Int.mul_le_mul_of_nonneg_right t1 (Int.le_of_lt W2)
    have f2 := Int.mul_lt_mul_of_pos_right t2 W2
    have x1 : lo * q * (2 * W) = 2 * (step * (2 * c1 * q)) + 2 * (start * q * (2 * W)) := by
      have : 2 * step * c1 * q = (lo - 2 * start) * W * q := by rw [e1]
      grind
    have x2 : hi * q * (2 * W) = 2 * (step * (2 * c2 * q)) + 2 * (start * q * (2 * W)) := by
      have : 2 * step * c2 * q = (hi - 2 * start) * W * q := by rw [e2]
      grind
    have x3 : 2 * (start * q + step * p) * (2 * W) = 2 * (step * (2 * W * p)) + 2 * (start * q * (2 * W)) := by grind
    have g1 : step * (2 * c1 * q) ≤ step * (2 * W * p) := by omega
    have g2 : step * (2 * W * p) < step * (2 * c2 * q) := by omega
    have y1 : lo * (2 * W) = 2 * (step * (2 * c1)) + 2 * (start * (2 * W)) := by grind
    have y2 : hi * (2 * W) = 2 * (step * (2 * c2)) + 2 * (start * (2 * W)) := by grind
    have y3 : 2 * (start * (2 * W) + step * s) = 2 * (step * s) + 2 * (start * (2 * W)) := by grind
    have mul_q : ∀ u v : Int, u ≤ v → u * q ≤ v * q := fun u v h => Int.mul_le_mul_of_nonneg_right h (Int.le_of_lt hq)
    rcases Int.lt_or_le step 0 with hs | hs
    · have h1' : 2 * W * p ≤ 2 * c1 * q := Int.not_lt.mp fun z => by
        have := Int.mul_lt_mul_of_pos_left z (show 0 < -step by omega)
        rw [Int.neg_mul, Int.neg_mul] at this
        omega
      have h2' : 2 * c2 * q < 2 * W * p := Int.lt_of_not_ge fun z => by
        have := Int.mul_le_mul_of_nonneg_left z (show 0 ≤ -step by omega)
        rw [Int.neg_mul, Int.neg_mul] at this
        omega
      have b1 : b ≤ 2 * c1 := by
        rcases n1 with z | z
        · have := mul_q _ _ z
          omega
        · exact z
      have b2 : 2 * c2 ≤ a := by
        rcases n2 with z | z
        · exact z
        · have := mul_q _ _ z
          omega
      have w1 := Int.mul_lt_mul_of_pos_left (show s < 2 * c1 by omega) (show 0 < -step by omega)
      have w2 := Int.mul_lt_mul_of_pos_left (show 2 * c2 < s by omega) (show 0 < -step by omega)
      rw [Int.neg_mul, Int.neg_mul] at w1 w2
      exact ⟨by omega, by omega⟩
    · have hs' : 0 < step := by omega
      have h1' : 2 * c1 * q ≤ 2 * W * p := Int.le_of_mul_le_mul_left g1 hs'
      have h2' : 2 * W * p < 2 * c2 * q := Int.lt_of_mul_lt_mul_left g2 hs
      have b1 : 2 * c1 ≤ a := by
        rcases n1 with z | z
        · exact z
        · have := mul_q _ _ z
          omega
      have b2 : b ≤ 2 * c2 := by
        rcases n2 with z | z
        · have := mul_q _ _ z
          omega
        · exact z
      have w1 := Int.mul_lt_mul_of_pos_left (show 2 * c1 < s by omega) hs'
      have w2 := Int.mul_lt_mul_of_pos_left (show s < 2 * c2 by omega) hs'
      exact ⟨by omega, by omega⟩
theorem mem_zip_tail {a b : Int} : ∀ {L : List Int}, (a, b) ∈ L.dropLast.zip L.tail → a ∈ L ∧ b ∈ L := by
  intro L h
  have h1 := (List.of_mem_zip h).1
  have h2 := (List.of_mem_zip h).2
  exact ⟨(List.dropLast_sublist L).subset h1, List.mem_of_mem_tail h2⟩
/-- the shares that are tried: some of 2 W, rising, both ends and each crossing within them there, and the middles of neighbours -/
theorem tried {g W : Int} {r : Ln} {c : Pt} {L : List Int} (hW : 0 < W) (hp : L.Pairwise (· ≤ ·)) (hL : ∀ s ∈ L, ∃ t : Int, s = 2 * t ∧ 0 ≤ t ∧ t ≤ W) (h0 : 0 ∈ L) (h1 : 2 * W ∈ L)
    (hx : r.2.1 - r.1.1 ≠ 0 → ∀ side ∈ [rimL g c.1, rimH g c.1], ∃ k : Int, 2 * (r.2.1 - r.1.1) * k = (side - 2 * r.1.1) * W ∧ (0 ≤ k → k ≤ W → 2 * k ∈ L))
    (hy : r.2.2 - r.1.2 ≠ 0 → ∀ side ∈ [rimL g c.2, rimH g c.2], ∃ k : Int, 2 * (r.2.2 - r.1.2) * k = (side - 2 * r.1.2) * W ∧ (0 ≤ k → k ≤ W → 2 * k ∈ L)) :
    Meets g r c ↔ ∃ s ∈ L ++ (L.dropLast.zip L.tail).map (fun z => (z.1 + z.2) / 2), HOc g r c s (2 * W) := by
  have rng : ∀ s ∈ L ++ (L.dropLast.zip L.tail).map (fun z => (z.1 + z.2) / 2), 0 ≤ s ∧ s ≤ 2 * W := fun s hs => by
    rcases List.mem_append.mp hs with h | h
    · obtain ⟨t, e, t0, t1⟩ := hL s h
      omega
    · obtain ⟨⟨a, b⟩, hm, rfl⟩ := List.mem_map.mp h
      obtain ⟨ha, hb⟩ := mem_zip_tail hm
      obtain ⟨t, e, t0, t1⟩ := hL _ ha
      obtain ⟨u, f, u0, u1⟩ := hL _ hb
      simp only
      omega
  constructor
  · intro ⟨p, q, hq, p0, p1, ha, hb⟩
    have hN0 : (0 : Int) * q ≤ 2 * W * p := by
      rw [Int.zero_mul]
      exact Int.mul_nonneg (by omega) p0
    have hN1 : 2 * W * p ≤ 2 * W * q := Int.mul_le_mul_of_nonneg_left p1 (by omega)
    rcases consec hq L hp ⟨0, h0, hN0⟩ ⟨2 * W, h1, hN1⟩ with ⟨a, ha', e⟩ | ⟨a, b, hz, k1, k2, k3⟩
    · refine ⟨a, List.mem_append_left _ ha', ?_⟩
      have same : ∀ start step num : Int, HO1 g start step num p q → HO1 g start step num a (2 * W) := fun start step num ⟨t1, t2⟩ => by
        have x : 2 * (start * (2 * W) + step * a) * q = 2 * (start * q + step * p) * (2 * W) := by
          have : step * (a * q) = step * (2 * W * p) := by rw [e]
          grind
        have y : ∀ z : Int, z * q * (2 * W) = z * (2 * W) * q := fun z => by rw [Int.mul_right_comm]
        have s1 := Int.mul_le_mul_of_nonneg_right t1 (show 0 ≤ 2 * W by omega)
        have s2 := Int.mul_lt_mul_of_pos_right t2 (show 0 < 2 * W by omega)
        rw [y, ← x] at s1
        rw [y, ← x] at s2
        exact ⟨Int.le_of_mul_le_mul_right s1 hq, Int.lt_of_mul_lt_mul_right s2 (Int.le_of_lt hq)⟩
      exact ⟨same _ _ _ ha, same _ _ _ hb⟩
    · obtain ⟨ma, mb⟩ := mem_zip_tail hz
      obtain ⟨t, ea, t0, t1⟩ := hL _ ma
      obtain ⟨u, eb, u0, u1⟩ := hL _ mb
      have hab : a < b := Int.lt_of_mul_lt_mul_right (Int.lt_trans k1 k2) (Int.le_of_lt hq)
      have m1 : a < (a + b) / 2 := by omega
      have m2 : (a + b) / 2 < b := by omega
      refine ⟨(a + b) / 2, List.mem_append_right _ (List.mem_map.mpr ⟨(a, b), hz, rfl⟩), ?_, ?_⟩
      · refine row_mid hW hq ha k1 k2 m1 m2 fun hs side hm => ?_
        obtain ⟨k, e, hk⟩ := hx hs side hm
        refine ⟨k, e, ?_⟩
        by_cases z0 : 0 ≤ k
        · by_cases z1 : k ≤ W
          · exact k3 _ (hk z0 z1)
          · right; omega
        · left; omega
      · refine row_mid hW hq hb k1 k2 m1 m2 fun hs side hm => ?_
        obtain ⟨k, e, hk⟩ := hy hs side hm
        refine ⟨k, e, ?_⟩
        by_cases z0 : 0 ≤ k
        · by_cases z1 : k ≤ W
          · exact k3 _ (hk z0 z1)
          · right; omega
        · left; omega
  · intro ⟨s, hs, h⟩
    obtain ⟨s0, s1⟩ := rng s hs
    exact ⟨s, 2 * W, by omega, s0, s1, h⟩
/-- turned about, and moved by whole corners -/
theorem Meets.rev {g : Int} {r : Ln} {c : Pt} : Meets g (r.2, r.1) c ↔ Meets g r c := by
  have one : ∀ {r : Ln}, Meets g r c → Meets g (r.2, r.1) c := fun {r} ⟨p, q, hq, p0, p1, ha, hb⟩ => by
    refine ⟨q - p, q, hq, by omega, by omega, ?_, ?_⟩
    · have e : r.2.1 * q + (r.1.1 - r.2.1) * (q - p) = r.1.1 * q + (r.2.1 - r.1.1) * p := by grind
      unfold HO1 at ha ⊢
      simp only
      rw [e]
      exact ha
    · have e : r.2.2 * q + (r.1.2 - r.2.2) * (q - p) = r.1.2 * q + (r.2.2 - r.1.2) * p := by grind
      unfold HO1 at hb ⊢
      simp only
      rw [e]
      exact hb
  exact ⟨fun h => one h, fun h => one h⟩
theorem Meets.move {g i j : Int} {r : Ln} {c : Pt} : Meets g ((r.1.1 + i * g, r.1.2 + j * g), (r.2.1 + i * g, r.2.2 + j * g)) (c.1 + i, c.2 + j) ↔ Meets g r c := by
  have one : ∀ start step num i p q : Int, HO1 g (start + i * g) step (num + i) p q ↔ HO1 g start step num p q := fun start step num i p q => by
    unfold HO1
    have e1 : (2 * (num + i) - 1) * g * q = (2 * num - 1) * g * q + 2 * (i * g * q) := by grind
    have e2 : (2 * (num + i) + 1) * g * q = (2 * num + 1) * g * q + 2 * (i * g * q) := by grind
    have e3 : 2 * ((start + i * g) * q + step * p) = 2 * (start * q + step * p) + 2 * (i * g * q) := by grind
    rw [e1, e2, e3]
    omega
  unfold Meets HOc
  simp only [show ∀ a b k : Int, a + k - (b + k) = a - b from fun a b k => by omega, one]
theorem nr_eq {n d i : Int} (h : 0 < d) : nr n d = i ↔ (2 * i - 1) * d ≤ 2 * n ∧ 2 * n < (2 * i + 1) * d := by
  have k := nr_lies (n := n) h
  constructor
  · intro e
    rw [← e]
    exact k
  · intro ⟨a, b⟩
    have c1 : (2 * nr n d - 1) * d < (2 * i + 1) * d := by omega
    have c2 : (2 * i - 1) * d < (2 * nr n d + 1) * d := by omega
    have := Int.lt_of_mul_lt_mul_right c1 (Int.le_of_lt h)
    have := Int.lt_of_mul_lt_mul_right c2 (Int.le_of_lt h)
    omega
theorem in_cell {g start step num p q : Int} (hg : 0 < g) (hq : 0 < q) : nr (q * start + p * step) (q * g) = num ↔ HO1 g start step num p q := by
  rw [nr_eq (Int.mul_pos hq hg)]
  unfold HO1
  rw [show start * q + step * p = q * start + p * step by rw [Int.mul_comm q, Int.mul_comm p], show (2 * num - 1) * g * q = (2 * num - 1) * (q * g) by rw [Int.mul_assoc, Int.mul_comm g q], show (2 * num + 1) * g * q = (2 * num + 1) * (q * g) by rw [Int.mul_assoc, Int.mul_comm g q]]
theorem HO1.scale {g start step num p q k : Int} (hk : 0 < k) : HO1 g start step num (p * k) (q * k) ↔ HO1 g start step num p q := by
  unfold HO1
  have e1 : (2 * num - 1) * g * (q * k) = (2 * num - 1) * g * q * k := by rw [Int.mul_assoc _ q k]
  have e2 : (2 * num + 1) * g * (q * k) = (2 * num + 1) * g * q * k := by rw [Int.mul_assoc _ q k]
  have e3 : 2 * (start * (q * k) + step * (p * k)) = 2 * (start * q + step * p) * k := by grind
  rw [e1, e2, e3]
  exact ⟨fun ⟨a, b⟩ => ⟨Int.le_of_mul_le_mul_right a hk, Int.lt_of_mul_lt_mul_right b (Int.le_of_lt hk)⟩, fun ⟨a, b⟩ => ⟨Int.mul_le_mul_of_nonneg_right a (Int.le_of_lt hk), Int.mul_lt_mul_of_pos_right b hk⟩⟩
/-- in lowest terms the middle lies in the cell just when it does -/
theorem mid_low {g p q k : Int} {r : Ln} {c : Pt} (hk : 0 < k) : HOc g r c (p * k) (q * k) ↔ HOc g r c p q := by
  unfold HOc
  rw [HO1.scale hk, HO1.scale hk]
end Cl

namespace Cl
open PySem PySem.Spec PyProof.Rows L2
/-! ### promises: shares of lines within cells -/
def ShB (s : Sh) : Prop := -(2 ^ 60) < s.1 ∧ s.1 < 2 ^ 60 ∧ 0 < s.2 ∧ s.2 < 2 ^ 60
def spRims (K : PySem.W.Frag) : Sp := fun vs H Q _ => ∃ g n : Int, vs = [.int g, .int n] ∧ 0 < g ∧ g < 2 ^ 60 ∧ New H (.tup [.int (rimL g n), .int (rimH g n)]) Q
def spLow (K : PySem.W.Frag) : Sp := fun vs H Q _ => ∃ n d : Int, vs = [.int n, .int d] ∧ 0 < d ∧ d < 2 ^ 200 ∧
  ∀ w H' (p q k : Int), Same H H' → 0 < k → n = p * k → d = q * k → 0 < q → At2 K H' w (p, q) → Q w H'
def spSooner (K : PySem.W.Frag) : Sp := fun vs H Q _ => ∃ u v p q, vs = [u, v] ∧ At2 K H u p ∧ At2 K H v q ∧ ShB p ∧ ShB q ∧ Q (.bl (decide (p.1 * q.2 < q.1 * p.2))) H
def spLater (K : PySem.W.Frag) (f : Sh → Sh → Sh) : Sp := fun vs H Q _ => ∃ u v p q, vs = [u, v] ∧ At2 K H u p ∧ At2 K H v q ∧ ShB p ∧ ShB q ∧ ∀ w, At2 K H w (f p q) → Q w H
theorem later_ShB {a b : Sh} (ha : ShB a) (hb : ShB b) : ShB (later a b) := by unfold later; split <;> assumption
theorem soon_ShB {a b : Sh} (ha : ShB a) (hb : ShB b) : ShB (soon a b) := by unfold soon; split <;> assumption
theorem low_parts {n d : Int} (hd : 0 < d) : ∃ k : Int, k = (Int.gcd n d : Nat) ∧ 0 < k ∧ k ≤ d ∧ n = n / k * k ∧ d = d / k * k ∧ 0 < d / k := by
  have h0 : 0 < Int.gcd n d := Int.gcd_pos_of_ne_zero_right _ (by omega)
  have h1 : ((Int.gcd n d : Nat) : Int) ∣ n := Int.gcd_dvd_left ..
  have h2 : ((Int.gcd n d : Nat) : Int) ∣ d := Int.gcd_dvd_right ..
  refine ⟨_, rfl, by omega, Int.le_of_dvd hd h2, (Int.ediv_mul_cancel h1).symm, (Int.ediv_mul_cancel h2).symm, Int.ediv_pos_of_pos_of_dvd hd (by omega) h2⟩
end Cl

namespace Cl
open PySem PySem.Spec PyProof.Rows L2
/-! ### a loop over zip of three tuples -/
def Itz3 (K : PySem.W.Frag) (a b c : Addr) : It :=
  ⟨fun i H => ∃ xs ys zs : List V, SqT K H a xs ∧ SqT K H b ys ∧ SqT K H c zs ∧ i < xs.length ∧ i < ys.length ∧ i < zs.length,
    fun i H v H' => ∃ T x y u, v = .ref T ∧ H T = none ∧ H' = upd H T (.tup [x, y, u]) ∧ (∀ xs, SqT K H a xs → xs[i]? = some x) ∧ (∀ ys, SqT K H b ys → ys[i]? = some y) ∧ ∀ zs, SqT K H c zs → zs[i]? = some u,
    fun i H => ∃ xs ys zs : List V, SqT K H a xs ∧ SqT K H b ys ∧ SqT K H c zs ∧ i = min (min xs.length ys.length) zs.length⟩
theorem turn_zip3 {P : Program} {w : World} {K : PySem.W.Frag} {elts : List Expr} {kk : Nat} {tpos : Pos} {a b c z TI TO i1 i2 i3 : Addr} (S : ZipSep3 z TI TO i1 i2 i3 [i1, a] [i2, b] [i3, c]) (n1 : a ≠ i1) (n2 : b ≠ i2) (n3 : c ≠ i3) :
    Turn P w K (.Tuple elts kk tpos) (Itz3 K a b c) [z, TI, TO, i1, i2, i3] z (fun i h => IsZip h z TI TO .none ∧ IsTupOf3 h TI (.ref i1) (.ref i2) (.ref i3) ∧ (∃ x y u, IsTupOf3 h TO x y u) ∧ h.IsTupleIter i1 a i ∧ h.IsTupleIter i2 b i ∧ h.IsTupleIter i3 c i) where
  mem := by simp
  obj := fun i h st d hd => by
    obtain ⟨hz, hTI, ⟨x, y, u, hTO⟩, ⟨o1, e1, _, d1⟩, ⟨o2, e2, _, d2⟩, ⟨o3, e3, _, d3⟩⟩ := st
    simp only [List.mem_cons, List.not_mem_nil, or_false] at hd
    rcases hd with rfl | rfl | rfl | rfl | rfl | rfl
    · exact ⟨_, hz, fun v q => nomatch q⟩
    · exact ⟨_, hTI, fun v q => nomatch q⟩
    · exact ⟨_, hTO, fun v q => nomatch q⟩
    · exact ⟨o1, e1, fun v q => by rw [d1] at q; cases q⟩
    · exact ⟨o2, e2, fun v q => by rw [d2] at q; cases q⟩
    · exact ⟨o3, e3, fun v q => by rw [d3] at q; cases q⟩
  keep := fun i h h' st k => by
    obtain ⟨hz, hTI, ⟨x, y, u, hTO⟩, h1, h2, h3⟩ := st
    exact ⟨k z (by simp) _ hz, k TI (by simp) _ hTI, ⟨x, y, u, k TO (by simp) _ hTO⟩, h1.at fun o q => k i1 (by simp) o q, h2.at fun o q => k i2 (by simp) o q, h3.at fun o q => k i3 (by simp) o q⟩
  item := by
    intro X hP hw hK hc i pins s σ H E I hf st hg
    subst hP hw hK
    obtain ⟨hz, hTI, hTO, h1, h2, h3⟩ := st
    obtain ⟨xs, ys, zs, q1, q2, q3, l1, l2, l3⟩ := hg
    obtain ⟨t1, r1, p1, _⟩ := I.tuple q1
    obtain ⟨t2, r2, p2, _⟩ := I.tuple q2
    obtain ⟨t3, r3, p3, _⟩ := I.tuple q3
    have m1 := r1.length
    have m2 := r2.length
    have m3 := r3.length
    have hh : X.A.in1.handled = none := I.ok.hd hc
    have W := GoesN.zip3 (elts := elts) (x1 := kk) (pos := tpos) S (Draws.tuple (prog := X.prog) (w := X.w) hh i1 a n1 t1.toArray) (Draws.tuple hh i2 b n2 t2.toArray) (Draws.tuple hh i3 c n3 t3.toArray)
    refine W.goes i s _ E (by simp; omega) ⟨hz, hTI, hTO, ⟨h1, p1⟩, ⟨h2, p2⟩, ⟨h3, p3⟩⟩ fun v h' tk hY st' hk htk => ?_
    obtain ⟨T, x, y, u, rfl, hT, hx, hy, hu, hTup⟩ := hY
    obtain ⟨z', TI', TO', ⟨h1', _⟩, ⟨h2', _⟩, ⟨h3', _⟩⟩ := st'
    obtain ⟨x', ex, rx⟩ := r1.get (List.getElem?_eq_getElem l1)
    obtain ⟨y', ey, ry⟩ := r2.get (List.getElem?_eq_getElem l2)
    obtain ⟨u', eu, ru⟩ := r3.get (List.getElem?_eq_getElem l3)
    have ex' : x' = x := by simpa [ex] using hx
    have ey' : y' = y := by simpa [ey] using hy
    have eu' : u' = u := by simpa [eu] using hu
    subst ex' ey' eu'
    have new : ObjOk X.prog X.w (upd H T (.tup [xs[i], ys[i], zs[i]])) h' T (.tup [xs[i], ys[i], zs[i]]) :=
      ⟨by show 3 ≤ sizeLine; decide, [x', y', u'], .cons rx (.cons ry (.cons ru .nil)), hTup⟩
    have hk2 : ∀ d o, d ∉ [z, TI, TO, i1, i2, i3] → s.heap.get? d = some o → h'.get? d = some o := fun d o hd e =>
      hk d o (fun q => hd (by simp only [List.mem_cons, List.not_mem_nil, or_false] at q ⊢; rcases q with q | q | q | q | q <;> simp [q])) e
    have I1 := I.turnedNew (t' := tk) (ch := [z, TI, TO, i1, i2, i3]) hk2 hf hT new
    refine ⟨.ref T, _, I1, rfl, ⟨T, _, _, _, rfl, I.hok.fresh hT, rfl, fun l hl => by rw [I.tuple_inj hl q1]; exact List.getElem?_eq_getElem l1, fun l hl => by rw [I.tuple_inj hl q2]; exact List.getElem?_eq_getElem l2, fun l hl => by rw [I.tuple_inj hl q3]; exact List.getElem?_eq_getElem l3⟩, ⟨z', TI', TO', h1', h2', h3'⟩, fun d hd => ?_⟩
    have hlt : d < s.heap.objs.size := by
      simp only [List.mem_cons, List.not_mem_nil, or_false] at hd
      obtain ⟨_, _, _, hTO⟩ := hTO
      rcases hd with q | q | q | q | q | q
      · rw [q]; exact Heap.lt_size hz
      · rw [q]; exact Heap.lt_size hTI
      · rw [q]; exact Heap.lt_size hTO
      · rw [q]; obtain ⟨_, e1, _⟩ := h1; exact Heap.lt_size e1
      · rw [q]; obtain ⟨_, e1, _⟩ := h2; exact Heap.lt_size e1
      · rw [q]; obtain ⟨_, e1, _⟩ := h3; exact Heap.lt_size e1
    rw [upd_ne (Nat.ne_of_lt (Nat.lt_of_lt_of_le hlt hT))]
    exact (hf d hd).1
  done := by
    intro X hP hw hK hc i pins s σ H E I hf st hg
    subst hP hw hK
    obtain ⟨hz, hTI, hTO, h1, h2, h3⟩ := st
    obtain ⟨xs, ys, zs, q1, q2, q3, l⟩ := hg
    obtain ⟨t1, r1, p1, _⟩ := I.tuple q1
    obtain ⟨t2, r2, p2, _⟩ := I.tuple q2
    obtain ⟨t3, r3, p3, _⟩ := I.tuple q3
    have m1 := r1.length
    have m2 := r2.length
    have m3 := r3.length
    have hh : X.A.in1.handled = none := I.ok.hd hc
    have W := GoesN.zip3 (elts := elts) (x1 := kk) (pos := tpos) S (Draws.tuple (prog := X.prog) (w := X.w) hh i1 a n1 t1.toArray) (Draws.tuple hh i2 b n2 t2.toArray) (Draws.tuple hh i3 c n3 t3.toArray)
    have hi : i = min (min t1.toArray.size t2.toArray.size) t3.toArray.size := by simp; omega
    subst hi
    refine W.stops s _ E ⟨hz, hTI, hTO, ⟨h1, p1⟩, ⟨h2, p2⟩, ⟨h3, p3⟩⟩ fun h' tk hk htk => I.turnedL (t' := tk) (ch := [z, TI, TO, i1, i2, i3]) (fun d o hd e => ?_) hf
    exact hk d o (fun q => hd (by simp only [List.mem_cons, List.not_mem_nil, or_false] at q ⊢; rcases q with q | q | q | q | q <;> simp [q])) e
  self := fun A i s Q E st h => wpAny_pyIter_zip st.1 h
def iZip3 (K : PySem.W.Frag) (ta : TA) : TI := fun σ H R => ta σ H fun vs H1 => ∃ a b c xs ys zs, vs = [.ref a, .ref b, .ref c] ∧ SqT K H1 a xs ∧ SqT K H1 b ys ∧ SqT K H1 c zs ∧ R (Itz3 K a b c) H1
theorem pi_zip3 {X : Cx} {e e2 e3 : Expr} {ta : TA} {p pos tpos : Pos} {elts : List Expr} {kk : Nat} (hg : Gl X "zip") (hm : X.mg "zip" = none) (ha : PA X [e, e2, e3] ta)
    (hs : starEach [e, e2, e3] X.env = (false, eval e X.env) :: starEach [e2, e3] X.env := by rfl) (hpl : (backTo pos (starEach [e2, e3] X.env)).any (·.1) = false := by rfl) :
    PI X (.Tuple elts kk tpos) (.Call (.Name "zip" p) [e, e2, e3] [] pos) (iZip3 X.K ta) := by
  refine ⟨fun pins s σ H R I h => ?_⟩
  refine Call_ (ld_blt I hg hm PyProof.Rows.boot_zip (PyProof.Rows.callWith_type1 (thn (ha.run pos pins s σ H _ I h) fun us s1 ⟨vs, H1, I1, r1, q1⟩ => ?_) hs hpl))
  obtain ⟨a, b, c, xs, ys, zs, ex, q1, q2, q3, q⟩ := q1
  subst ex
  cases r1 with
  | cons r rr =>
    cases rr with
    | cons r' rr =>
      cases rr with
      | cons r'' rr =>
        cases rr
        cases r
        cases r'
        cases r''
        obtain ⟨t1, v1, p1, _⟩ := I1.tuple q1
        obtain ⟨t2, v2, p2, _⟩ := I1.tuple q2
        obtain ⟨t3, v3, p3, _⟩ := I1.tuple q3
        have la : a < s1.heap.objs.size := by obtain ⟨o1, g1, _⟩ := id p1; exact Heap.lt_size g1
        have lb : b < s1.heap.objs.size := by obtain ⟨o1, g1, _⟩ := id p2; exact Heap.lt_size g1
        have lc : c < s1.heap.objs.size := by obtain ⟨o1, g1, _⟩ := id p3; exact Heap.lt_size g1
        have fresh : ∀ d, d ∈ [s1.heap.objs.size + 5, s1.heap.objs.size + 3, s1.heap.objs.size + 4, s1.heap.objs.size, s1.heap.objs.size + 1, s1.heap.objs.size + 2] → FpOk X pins H1 d := fun d hd => by
          have hle : s1.heap.objs.size ≤ d := by
            simp only [List.mem_cons, List.not_mem_nil, or_false] at hd
            rcases hd with z | z | z | z | z | z
            · rw [z]; exact Nat.le_add_right _ _
            · rw [z]; exact Nat.le_add_right _ _
            · rw [z]; exact Nat.le_add_right _ _
            · rw [z]; exact Nat.le_refl _
            · rw [z]; exact Nat.le_add_right _ _
            · rw [z]; exact Nat.le_add_right _ _
          exact I1.fpOk hle (I1.hok.fresh hle)
        refine zip_begins3 (begins_tuple a t1.toArray) (begins_tuple b t2.toArray) (begins_tuple c t3.toArray) p1 p2 p3 fun h' hz hTI hTO h1 h2 h3 hsz hk => wpAny_pyIter_zip hz ?_
        have I2 : Inv X pins σ H1 { s1 with heap := h' } := I1.kept (t' := s1.toks) hk
        have ne : ∀ (d : Addr) (k : Nat), d < s1.heap.objs.size → d ≠ s1.heap.objs.size + k := fun d k hd => Nat.ne_of_lt (Nat.lt_of_lt_of_le hd (Nat.le_add_right _ _))
        exact ⟨s1.heap.objs.size + 5, [s1.heap.objs.size + 5, s1.heap.objs.size + 3, s1.heap.objs.size + 4, s1.heap.objs.size, s1.heap.objs.size + 1, s1.heap.objs.size + 2], _, _, H1, rfl, I2,
          turn_zip3 (zip_sep3 (fp1 := [a]) (fp2 := [b]) (fp3 := [c]) (fun d hd => by rw [List.mem_singleton.mp hd]; exact la) (fun d hd => by rw [List.mem_singleton.mp hd]; exact lb) (fun d hd => by rw [List.mem_singleton.mp hd]; exact lc)) (ne a 0 la) (ne b 1 lb) (ne c 2 lc),
          ⟨hz, hTI, ⟨_, _, _, hTO⟩, ⟨_, h1, rfl, rfl⟩, ⟨_, h2, rfl, rfl⟩, ⟨_, h3, rfl, rfl⟩⟩, fresh, q⟩
theorem for_zip3 {K : PySem.W.Frag} {a b c : Addr} {xs ys zs : List V} {g : TG} {tb : TS} {D : Ends} {σ : L2.St} {H : Hp} (hl : xs.length = ys.length) (hl2 : xs.length = zs.length) (Pv : Nat → L2.St → Hp → Prop) (h0 : Pv 0 σ H) (hq : ∀ i σ H, Pv i σ H → SqT K H a xs ∧ SqT K H b ys ∧ SqT K H c zs)
    (hs : ∀ (i : Nat) (x y u : V) (T : Addr) (σ : L2.St) (H : Hp), xs[i]? = some x → ys[i]? = some y → zs[i]? = some u → Pv i σ H → H T = none → g (.ref T) σ (upd H T (.tup [x, y, u])) fun σ2 H2 => tb { D with nx := Pv (i + 1), ct := Pv (i + 1), bk := D.nx } σ2 H2) (hd : ∀ σ H, Pv xs.length σ H → D.nx σ H) :
    ∃ W : Nat → Nat → L2.St → Hp → Prop, (∃ m, W 0 m σ H) ∧ ∀ i m σ H, W i m σ H →
      ((Itz3 K a b c).stop i H ∧ D.nx σ H) ∨ ((Itz3 K a b c).go i H ∧ ∃ N : L2.St → Hp → Prop, (∀ σ' H', N σ' H' → ∃ m', m' < m ∧ W (i + 1) m' σ' H') ∧ ∀ v H', (Itz3 K a b c).yld i H v H' → g v σ H' fun σ2 H2 => tb { D with nx := N, ct := N, bk := D.nx } σ2 H2) := by
  refine ⟨fun i m σ H => m = xs.length - i ∧ i ≤ xs.length ∧ Pv i σ H, ⟨xs.length, rfl, Nat.zero_le _, h0⟩, ?_⟩
  rintro i m σ H ⟨rfl, hi, p⟩
  obtain ⟨qx, qy, qz⟩ := hq i σ H p
  by_cases hlt : i < xs.length
  · refine .inr ⟨⟨xs, ys, zs, qx, qy, qz, hlt, by omega, by omega⟩, Pv (i + 1), fun σ' H' p' => ⟨xs.length - (i + 1), by omega, rfl, hlt, p'⟩, fun v H' y => ?_⟩
    obtain ⟨T, x', y', u', rfl, hT, rfl, f1, f2, f3⟩ := y
    exact hs i x' y' u' T σ H (f1 xs qx) (f2 ys qy) (f3 zs qz) p hT
  · have e : i = xs.length := by omega
    subst e
    exact .inl ⟨⟨xs, ys, zs, qx, qy, qz, by omega⟩, hd σ H p⟩
end Cl

namespace Cl
open PySem PySem.Spec PyProof.Rows L2
/-! ### pairs of lines of great numbers -/
def AtPair (K : PySem.W.Frag) (H : Hp) (v : V) (l r : Ln) : Prop := ∃ a u w, v = .ref a ∧ SqT K H a [u, w] ∧ AtL K H u l ∧ AtL K H w r
def GoodPair (l r : Ln) : Prop := BdL l ∧ BdL r ∧ l.1 ≠ l.2 ∧ r.1 ≠ r.2
def spPair (K : PySem.W.Frag) : Sp := fun vs H Q _ => ∃ (d l : Addr), vs = [.ref d] ∧ Deck H d l ∧
  ∀ w H' m n, Step d l H H' → AtPair K H' w m n → GoodPair m n → Q w H'
def spNum (B : Int) : Sp := fun vs H Q _ => ∃ (d l : Addr), vs = [.ref d] ∧ Deck H d l ∧ ∀ v H', -B ≤ v → v ≤ B → Step d l H H' → Q (.int v) H'
def spStepsP (K : PySem.W.Frag) : Sp := fun vs H Q _ => ∃ (d l : Addr), vs = [.ref d] ∧ Deck H d l ∧
  ∀ w H' p, Step d l H H' → At2 K H' w p → BdN 60000 p → p ≠ (0, 0) → Q w H'
theorem bdC_of {p : Pt} (h : BdN 10000000 p) : BdC p := by
  unfold BdN at h
  unfold BdC
  omega
theorem AllAt.twoLn {K : PySem.W.Frag} {H : Hp} {vs : List V} {p q : Pt} (h : AllAt (At2 K H) vs [p, q]) : ∃ u w, vs = [u, w] ∧ At2 K H u p ∧ At2 K H w q := by
  match vs, h with
  | [u, w], .cons a (.cons b .nil) => exact ⟨u, w, rfl, a, b⟩
theorem four {xs : List Int} (h : xs.length = 4) : ∃ x y z w, xs = [x, y, z, w] := by
  match xs, h with
  | [x, y, z, w], _ => exact ⟨x, y, z, w, rfl⟩
end Cl

namespace Cl
open PySem PySem.Spec PyProof.Rows L2
/-! ### a call of a def with a starred argument behind the first -/
section
variable {X : Cx} {k : Nat} {ps : List Str} {sp : Sp} {x : Str} {p pos : Pos} {e : Expr} {es : List Expr} {t : TA}
theorem callDS (D : Def X.prog X.w X.K X.mg X.base k x ps sp) (hr : RG k X.A) (ha : PA X (e :: es) t)
    (hg : Gl X x := by rfl) (hdb : (x == ("__debug__" : Str)) = false := by decide)
    (he : starEach (e :: es) X.env = (false, eval e X.env) :: starEach es X.env := by rfl)
    (hst : (backTo pos (starEach es X.env)).any (·.1) = true := by rfl) :
    PE X (.Call (.Name x p) (e :: es) [] pos) (tCall sp [] E0 t) := by
  obtain ⟨f, fd, F, hm, hk, hb⟩ := D.ex
  constructor
  intro pins s σ H Q I h
  refine wpAny_Call_Name_kw (ld_glob I hg hm ?_ hdb)
  refine PySem.W.callWith_S2 (h₀ := X.base) I.ok.mod.kin hk ?_ he hst
  refine thn (ha.run pos pins s σ H _ I h) fun us s1 ⟨vs, H1, I1, r, q⟩ => ⟨I1.kIn, ?_⟩
  have r2 : Vals (vs ++ []) (us ++ []) := r.append .nil
  have h2 : sp (vs ++ []) H1 Q E0 := q
  have n2 : (us ++ []).length = ps.length := r2.length.symm.trans (F.len _ _ _ _ h2)
  have run := F.run X.A X.stack s1 H1 ⟨us, []⟩ (us ++ []) (vs ++ []) Q E0 hr I1.env0 (hb s1 us I1.kIn n2) r2 h2
  refine wpAny_call (codeAny_mono run fun res s' hq => ?_)
  match res, hq with
  | .error ee, hq => exact pass0 pins σ H1 s1 ee s' I1 hq
  | .ok (.ret u), hq => exact I1.after hq
  | .ok .next, hq => exact hq.elim
  | .ok .brk, hq => exact hq.elim
  | .ok .cont, hq => exact hq.elim
end
/-! ### promises: the part of a line within a cell -/
def BdW (g : Int) (r : Ln) (c : Pt) : Prop := 0 < g ∧ g ≤ 1000 ∧ BdN 3000000 r.1 ∧ BdN 3000000 r.2 ∧ BdN 3000000 c
def AtSh (K : PySem.W.Frag) (H : Hp) (v : V) (f l : Sh) : Prop := ∃ a u w, v = .ref a ∧ SqT K H a [u, w] ∧ At2 K H u f ∧ At2 K H w l
def ShN (s : Sh) : Prop := -(2 ^ 36) < s.1 ∧ s.1 < 2 ^ 36 ∧ 0 < s.2 ∧ s.2 < 2 ^ 24
theorem ShN.b {s : Sh} (h : ShN s) : ShB s := by
  unfold ShN at h
  unfold ShB
  omega
theorem later_ShN {a b : Sh} (ha : ShN a) (hb : ShN b) : ShN (later a b) := by unfold later; split <;> assumption
theorem soon_ShN {a b : Sh} (ha : ShN a) (hb : ShN b) : ShN (soon a b) := by unfold soon; split <;> assumption
def spWithin (K : PySem.W.Frag) : Sp := fun vs H Q _ => ∃ g v r u c, vs = [.int g, v, u] ∧ AtL K H v r ∧ At2 K H u c ∧ BdW g r c ∧
  (sharesW g r c = none → ∀ H', Same H H' → Q .non H') ∧ ∀ f l w H', sharesW g r c = some (f, l) → Same H H' → AtSh K H' w f l → ShN f → ShN l → Q w H'
/-- the two numbers of a point, by 0 and 1 -/
def crd (p : Int × Int) (i : Nat) : Int := if i = 0 then p.1 else p.2
def stg (g : Int) (r : Ln) (c : Pt) : Nat → Option (Sh × Sh)
  | 0 => some ((0, 1), (1, 1))
  | i + 1 => match stg g r c i with
    | none => none
    | some (f, l) => inc f l (crd r.2 i - crd r.1 i) (rimL g (crd c i) - 2 * crd r.1 i) (rimH g (crd c i) - 2 * crd r.1 i)
theorem sharesW_stg (g : Int) (r : Ln) (c : Pt) : sharesW g r c = match stg g r c 2 with
    | none => none
    | some (f, l) => if l.1 * f.2 < f.1 * l.2 then none else some (f, l) := by
  unfold sharesW
  cases h : inc (0, 1) (1, 1) (r.2.1 - r.1.1) (rimL g c.1 - 2 * r.1.1) (rimH g c.1 - 2 * r.1.1) with
  | none => simp [stg, crd, h]
  | some z =>
    obtain ⟨f, l⟩ := z
    cases h2 : inc f l (r.2.2 - r.1.2) (rimL g c.2 - 2 * r.1.2) (rimH g c.2 - 2 * r.1.2) with
    | none => simp [stg, crd, h, h2]
    | some z => simp [stg, crd, h, h2]
theorem stg_none {g : Int} {r : Ln} {c : Pt} {i : Nat} (hi : i < 2) (h : stg g r c (i + 1) = none) : sharesW g r c = none := by
  rw [sharesW_stg]
  obtain rfl | rfl : i = 0 ∨ i = 1 := by omega
  · rw [show stg g r c 2 = match stg g r c 1 with
      | none => none
      | some (f, l) => inc f l (crd r.2 1 - crd r.1 1) (rimL g (crd c 1) - 2 * crd r.1 1) (rimH g (crd c 1) - 2 * crd r.1 1) from rfl, h]
  · rw [h]
theorem rim_b {g n : Int} (h0 : 0 < g) (h1 : g ≤ 1000) (n0 : -3000000 ≤ n) (n1 : n ≤ 3000000) : -(2 ^ 34) < rimL g n ∧ rimL g n < 2 ^ 34 ∧ -(2 ^ 34) < rimH g n ∧ rimH g n < 2 ^ 34 := by
  have k : ∀ z : Int, -6000001 ≤ z → z ≤ 6000001 → -6000001000 ≤ z * g ∧ z * g ≤ 6000001000 := fun z z0 z1 => by
    have a1 : (z + 6000001) * g ≤ (z + 6000001) * 1000 := Int.mul_le_mul_of_nonneg_left h1 (by omega)
    have a2 : (6000001 - z) * g ≤ (6000001 - z) * 1000 := Int.mul_le_mul_of_nonneg_left h1 (by omega)
    have a3 : 0 ≤ (z + 6000001) * g := Int.mul_nonneg (by omega) (by omega)
    have a4 : 0 ≤ (6000001 - z) * g := Int.mul_nonneg (by omega) (by omega)
    rw [Int.add_mul] at a1 a3
    rw [Int.sub_mul] at a2 a4
    omega
  unfold rimL rimH
  have := k (2 * n - 1) (by omega) (by omega)
  have := k (2 * n + 1) (by omega) (by omega)
  omega
/-- corner_at: its spot's corner -/
def spCornerAt (K : PySem.W.Frag) : Sp := fun vs H Q _ => ∃ (g : Int) (v : V) (s : S3), vs = [.int g, v] ∧ At3 K H v s ∧ 0 < g ∧ g < 2 ^ 60 ∧ 0 < s.2.2 ∧ s.2.2 * g < 2 ^ 60 ∧
  ∀ w H', Same H H' → At2 K H' w (nr s.1 (s.2.2 * g), nr s.2.1 (s.2.2 * g)) → Q w H'
def spShare (K : PySem.W.Frag) : Sp := fun vs H Q _ => ∃ g v r u c, vs = [.int g, v, u] ∧ AtL K H v r ∧ At2 K H u c ∧ BdW g r c ∧
  (¬ Meets g r c → ∀ H', Same H H' → Q .non H') ∧ (Meets g r c → ∀ p w H', Same H H' → At2 K H' w p → Q w H')
def spMeets (K : PySem.W.Frag) : Sp := fun vs H Q _ => ∃ g v r u c, vs = [.int g, v, u] ∧ AtL K H v r ∧ At2 K H u c ∧ BdW g r c ∧
  ∀ b H', Same H H' → (b = true ↔ Meets g r c) → Q (.bl b) H'
theorem eqv_pair (i j k l : Int) : PyData.eqv (.tuple [.int i, .int j]) (.tuple [.int k, .int l]) = decide (i = k ∧ j = l) := by
  rw [Bool.eq_iff_iff]
  simp [PyData.eqv, PyData.eqvAll]
theorem mid_b {f l : Sh} (hf : ShN f) (hl : ShN l) : 0 < midQ f l ∧ midQ f l ≤ 2 ^ 49 := by
  unfold ShN at hf hl
  unfold midQ
  have h1 : f.2 * l.2 ≤ 2 ^ 24 * 2 ^ 24 := Int.mul_le_mul (by omega) (by omega) (by omega) (by decide)
  have h2 : 0 < f.2 * l.2 := Int.mul_pos (by omega) (by omega)
  rw [Int.mul_assoc]
  omega
/-- the corner of the point at the share p of q is this one just when the point lies in its cell -/
theorem corner_share {g : Int} {r : Ln} {c : Pt} {p q : Int} (hg : 0 < g) (hq : 0 < q) :
    let s := sp3 (q * r.1.1 + p * (r.2.1 - r.1.1)) (q * r.1.2 + p * (r.2.2 - r.1.2)) q
    0 < s.2.2 ∧ s.2.2 ≤ q ∧ ((nr s.1 (s.2.2 * g), nr s.2.1 (s.2.2 * g)) = c ↔ HOc g r c p q) := by
  obtain ⟨k, _, _, _, _, h2, h3⟩ := spot_pos (n := q * r.1.1 + p * (r.2.1 - r.1.1)) (m := q * r.1.2 + p * (r.2.2 - r.1.2)) hq
  refine ⟨h2, h3, ?_⟩
  obtain ⟨e1, e2⟩ := nr_spot (n := q * r.1.1 + p * (r.2.1 - r.1.1)) (m := q * r.1.2 + p * (r.2.2 - r.1.2)) (g := g) hq
  show (nr _ (_ * g), nr _ (_ * g)) = c ↔ _
  unfold sp3
  simp only
  rw [e1, e2]
  unfold HOc
  rw [← in_cell hg hq, ← in_cell hg hq]
  constructor
  · intro e
    rw [← e]
    exact ⟨rfl, rfl⟩
  · intro ⟨a, b⟩
    exact Prod.ext a b
end Cl

namespace Cl
open PySem PySem.Spec PyProof.Rows L2
/-! ### lines of any grain, drawn; the shares tried -/
def BdR (B : Int) (r : Ln) : Prop := BdN B r.1 ∧ BdN B r.2
def spGrainW : Sp := fun vs H Q _ => ∃ d l : Addr, vs = [.ref d] ∧ Deck H d l ∧ ∀ g H', 0 < g → g ≤ 1000 → Step d l H H' → Q (.int g) H'
def spPointW (K : PySem.W.Frag) : Sp := fun vs H Q _ => ∃ (d l : Addr) (g way : Int), vs = [.ref d, .int g, .int way] ∧ 0 < g ∧ g ≤ 1000 ∧ Deck H d l ∧
  ∀ w H' p, Step d l H H' → At2 K H' w p → BdN 5000 p → Q w H'
def spLineW (K : PySem.W.Frag) : Sp := fun vs H Q _ => ∃ (d l : Addr) (g : Int) (L : Addr) (ws : List V) (ls : List Ln), vs = [.ref d, .int g, .ref L] ∧ 0 < g ∧ g ≤ 1000 ∧ Deck H d l ∧
  L ≠ d ∧ L ≠ l ∧ H L = some (.lst ws) ∧ AllAt (AtL K H) ws ls ∧ ls.length ≤ 10 ∧
  ∀ w H' r', Step d l H H' → AtL K H' w r' → BdR 60000 r' → Q w H'
def spLinesW (K : PySem.W.Frag) : Sp := fun vs H Q _ => ∃ (d l : Addr) (g : Int) (n : Nat), vs = [.ref d, .int g, .int n] ∧ 0 < g ∧ g ≤ 1000 ∧ 0 < n ∧ n ≤ 10 ∧ Deck H d l ∧
  ∀ w H' ls, Step d l H H' → AtT K H' w ls → ls.length = n → (∀ r ∈ ls, BdR 60000 r) → Q w H'
def mvL (dx dy : Int) (r : Ln) : Ln := ((r.1.1 + dx, r.1.2 + dy), (r.2.1 + dx, r.2.2 + dy))
def spMovedW (K : PySem.W.Frag) : Sp := fun vs H Q _ => ∃ (v : V) (ls : List Ln) (dx dy : Int), vs = [v, .int dx, .int dy] ∧ AtT K H v ls ∧ ls.length ≤ 900 ∧
  ∀ w H', Same H H' → AtT K H' w (ls.map (mvL dx dy)) → Q w H'
def spNearestW (K : PySem.W.Frag) : Sp := fun vs H Q _ => ∃ (g : Int) (v : V) (s : S3), vs = [.int g, v] ∧ At3 K H v s ∧ 0 < g ∧ g ≤ 1000 ∧ s.2.2 = 16 ∧
  ∀ w H' p, Same H H' → At2 K H' w p → Q w H'
def spSharesW (K : PySem.W.Frag) : Sp := fun vs H Q _ => ∃ g v r u c, vs = [.int g, v, u] ∧ AtL K H v r ∧ At2 K H u c ∧ 0 < g ∧ g ≤ 1000 ∧ BdR 1100000 r ∧ BdN 1000000 c ∧
  ∀ L H' vs ps, Same H H' → H' L = some (.lst vs) → AllAt (At2 K H') vs ps → (ps ≠ [] ↔ Meets g r c) → Q (.ref L) H'
def spFarW : Sp := fun vs H Q _ => ∃ (d l : Addr), vs = [.ref d] ∧ Deck H d l ∧ ∀ v H', -1000000 ≤ v → v ≤ 1000000 → Step d l H H' → Q (.int v) H'
def spSomeW (K : PySem.W.Frag) : Sp := fun vs H Q _ => ∃ (d l : Addr) (g : Int), vs = [.ref d, .int g] ∧ 0 < g ∧ g ≤ 1000 ∧ Deck H d l ∧
  ∀ w H' r, Step d l H H' → AtL K H' w r → BdR 1100000 r → Q w H'
def spNearW (K : PySem.W.Frag) : Sp := fun vs H Q _ => ∃ (d l : Addr) (g : Int) (v : V) (r : Ln), vs = [.ref d, .int g, v] ∧ 0 < g ∧ g ≤ 1000 ∧ Deck H d l ∧ AtL K H v r ∧
  ∀ w H' c, Step d l H H' → At2 K H' w c → BdN 1000000 c → Q w H'
def AtLC (K : PySem.W.Frag) (H : Hp) (v : V) (x : Ln × Pt) : Prop := ∃ a u w, v = .ref a ∧ SqT K H a [u, w] ∧ AtL K H u x.1 ∧ At2 K H w x.2
theorem AtLC.same {K : PySem.W.Frag} {H H' : Hp} {v : V} {x : Ln × Pt} (h : AtLC K H v x) (s : Same H H') : AtLC K H' v x := by
  obtain ⟨a, u, w, rfl, h1, h2, h3⟩ := h
  exact ⟨a, u, w, rfl, seT s h1, h2.same s, h3.same s⟩
theorem AtLC.upd {K : PySem.W.Frag} {H : Hp} {M : Addr} {xs : List V} {o : HO} {v : V} {x : Ln × Pt} (h : AtLC K H v x) (e : H M = some (.lst xs)) : AtLC K (L2.upd H M o) v x := by
  obtain ⟨a, u, w, rfl, h1, h2, h3⟩ := h
  exact ⟨a, u, w, rfl, updT e h1, h2.upd e, h3.upd e⟩
def spTurnedW (K : PySem.W.Frag) : Sp := fun vs H Q _ => ∃ (g : Int) (v : V) (r : Ln) (u : V) (c : Pt) (b : Addr) (i j : Int), vs = [.int g, v, u, .ref b] ∧ AtL K H v r ∧ At2 K H u c ∧ H b = some (.lst [.int i, .int j]) ∧
  0 < g ∧ g ≤ 1000 ∧ BdR 1100000 r ∧ BdN 1000000 c ∧ -10 ≤ i ∧ i ≤ 10 ∧ -10 ≤ j ∧ j ≤ 10 ∧
  ∀ L H' vs ps, Same H H' → H' L = some (.lst vs) → AllAt (AtLC K H') vs ps → (∀ x ∈ ps, BdW g x.1 x.2 ∧ (Meets g x.1 x.2 ↔ Meets g r c)) → Q (.ref L) H'
theorem cut_init (xs : List V) : cutV xs none (some (-1)) = xs.dropLast := by
  unfold cutV
  have e : HT.sIx xs.length xs.length (some (-1)) = xs.length - 1 := by
    show (if (-1 : Int) < 0 then ((-1 : Int) + (xs.length : Int)).toNat else min (-1 : Int).toNat xs.length) = _
    rw [if_pos (by decide)]
    omega
  rw [HT.sIx_none, e, List.drop_zero, Nat.sub_zero, List.dropLast_eq_take]
theorem cut_tail (xs : List V) : cutV xs (some 1) none = xs.tail := by rw [cut_rest, List.drop_one]
section
variable {X : Cx}
theorem cr_sortedIN : CallR X (.builtin "sorted") (fun vs H Q => ∃ (a : Addr) (ns : List Int), vs = [V.ref a] ∧ SqL X.K H a (ns.map V.int) ∧ ∀ ns' : List Int, ns'.Perm ns → ns'.Pairwise (· ≤ ·) → New H (.lst (ns'.map V.int)) Q) :=
  fun pins s σ H vs us Q I r ⟨a, ns, h1, h2, q⟩ => cr_sortedI pins s σ H vs us Q I r ⟨a, ns, h1, h2, fun ns' p h3 h4 n => (q ns' h3 h4).go p n⟩
def rRepN : R2 := fun x y H Q => ∃ l k xs, x = .ref l ∧ y = .int k ∧ H l = some (.lst xs) ∧ -(2 ^ 63) ≤ k ∧ k < 2 ^ 63 ∧ xs.length * k.toNat ≤ sizeLine ∧ New H (.lst (List.replicate k.toNat xs).flatten) Q
theorem op_repN : OpR X (binaryOp .Mult) rRepN := fun pins s σ H x y v u Q I rx ry ⟨l, k, xs, h1, h2, h3, h4, h5, h6, q⟩ => op_rep pins s σ H x y v u Q I rx ry ⟨l, k, xs, h1, h2, h3, h4, h5, h6, q.go⟩
end
section
variable {X : Cx}
theorem cut_whole {xs : List V} {lo hi : Option Int} (h : HT.sIx xs.length 0 lo = 0 ∧ HT.sIx xs.length xs.length hi = xs.length) : cutV xs lo hi = xs := by
  unfold cutV
  rw [h.1, h.2, List.drop_zero, Nat.sub_zero, List.take_length]
/-- t[lo:hi] of a tuple, a new one or itself -/
def rSlTB (K : PySem.W.Frag) : V → Option Int → Option Int → Hp → VK → Prop := fun x lo hi H Q => ∃ a xs, x = .ref a ∧ SqT K H a xs ∧ ∀ p H', Same H H' → SqT K H' p (cutV xs lo hi) → Q (.ref p) H'
theorem sl_tupB : SlR X (rSlTB X.K) := fun pins s σ H x v vl vu lo hi sl Q I rx hs pl pu ⟨a, xs, h1, h2, q⟩ =>
  sl_tupA pins s σ H x v vl vu lo hi sl Q I rx hs pl pu ⟨a, xs, h1, h2, fun hw => q a H (.refl _) (by rw [cut_whole hw]; exact h2), fun _ p n => q p _ (same_new n) (.inl (.inl upd_same))⟩
/-- t + u of tuples, a new one or one of them -/
def rCatTB (K : PySem.W.Frag) : R2 := fun x y H Q => ∃ a b xs ys, x = .ref a ∧ y = .ref b ∧ SqT K H a xs ∧ SqT K H b ys ∧ xs.length + ys.length ≤ sizeLine ∧ ∀ p H', Same H H' → SqT K H' p (xs ++ ys) → Q (.ref p) H'
theorem op_catTB : OpR X (binaryOp .Add) (rCatTB X.K) := fun pins s σ H x y v u Q I rx ry ⟨a, b, xs, ys, h1, h2, h3, h4, h5, q⟩ =>
  op_catA pins s σ H x y v u Q I rx ry ⟨a, b, xs, ys, h1, h2, h3, h4, h5, fun e => q b H (.refl _) (by rw [e]; exact h4), fun _ e => q a H (.refl _) (by rw [e, List.append_nil]; exact h3), fun _ _ p n => q p _ (same_new n) (.inl (.inl upd_same))⟩
end
theorem small64' {n : Nat} (h : n ≤ 100) : n ≤ sizeLine := by
  have : sizeLine = 16777216 := by decide
  omega
/-- over zip of two lists -/
def lcZ {K : PySem.W.Frag} {a b : Addr} {xs ys : List V} {n : Nat} {g : TG} {tt : TT} {te : TE} {vs : List Nat} {σ : L2.St} {H1 : Hp} {D : Addr} {Qd : Hp → Prop} (hn : n = min xs.length ys.length)
    (Pv : Nat → Hp → Prop) (hD : H1 D = none) (h0 : ∀ H', Same H1 H' → H' D = some (.lst []) → Pv 0 H') (hG : ∀ i H, i ≤ n → Pv i H → SqL K H a xs ∧ SqL K H b ys)
    (hs : ∀ i x H H', i < n → Pv i H → YPair (fun i => xs[i]?) (fun i => ys[i]?) i H x H' → g x (wipe σ vs) H' fun σ2 H2 => wipe σ2 vs = wipe σ vs ∧ tt σ2 H2 fun b H3 =>
      if b = true then te σ2 H3 fun y H4 => ∃ acc, H4 D = some (.lst acc) ∧ acc.length < sizeLine ∧ Pv (i + 1) (upd H4 D (.lst (acc ++ [y]))) else Pv (i + 1) H3)
    (hd : ∀ H, Pv n H → Qd H) := lc_it (walk_zip (K := K) (a := a) (b := b) hn) (g := g) (tt := tt) (te := te) (vs := vs) (σ := σ) (H1 := H1) (D := D) (Qd := Qd) Pv (h0 _ (same_new hD) upd_same) hG hs hd
/-! ### the shares that the law tries -/
def ab (z : Int) : Int := if z < 0 then -z else z
def m1 (z : Int) : Int := if ab z > 1 then ab z else 1
def sgn (z : Int) : Int := if z > 0 then 1 else -1
def crs (first way W side : Int) : Int := (side - first) * (W / ab way) * sgn way
def crsR (g first way k W : Int) : List Int := if way ≠ 0 then [crs first way W (rimL g k), crs first way W (rimH g k)] else []
def wh (r : Ln) : Int := m1 (2 * (r.2.1 - r.1.1)) * m1 (2 * (r.2.2 - r.1.2))
def raw (g : Int) (r : Ln) (c : Pt) : List Int := [0, wh r] ++ crsR g (2 * r.1.1) (2 * (r.2.1 - r.1.1)) c.1 (wh r) ++ crsR g (2 * r.1.2) (2 * (r.2.2 - r.1.2)) c.2 (wh r)
def inB (g first way k W s : Int) : Bool := decide (2 * (2 * k - 1) * g * W ≤ first * 2 * W + way * s) && decide (first * 2 * W + way * s < 2 * (2 * k + 1) * g * W)
theorem ab_pos {z : Int} (h : z ≠ 0) : 0 < ab z := by unfold ab; split <;> omega
theorem m1_pos (z : Int) : 0 < m1 z := by unfold m1 ab; split <;> omega
theorem m1_of {z : Int} (h : z ≠ 0) : m1 z = ab z := by unfold m1 ab; split <;> (split <;> omega)
theorem m1_le {z B : Int} (h1 : -B ≤ z) (h2 : z ≤ B) (hB : 1 ≤ B) : m1 z ≤ B := by unfold m1 ab; split <;> (split <;> omega)
theorem wh_pos (r : Ln) : 0 < wh r := Int.mul_pos (m1_pos _) (m1_pos _)
theorem wh_le {r : Ln} (h : BdR 1100000 r) : wh r ≤ 2 ^ 45 := by
  obtain ⟨h1, h2⟩ := h
  unfold BdN at h1 h2
  have a1 := m1_le (z := 2 * (r.2.1 - r.1.1)) (B := 4400000) (by omega) (by omega) (by omega)
  have a2 := m1_le (z := 2 * (r.2.2 - r.1.2)) (B := 4400000) (by omega) (by omega) (by omega)
  have := Int.mul_le_mul a1 a2 (Int.le_of_lt (m1_pos _)) (by omega)
  unfold wh
  omega
theorem crs_eq {first way W side : Int} (hw : way ≠ 0) (hd : ab way ∣ W) : way * crs first way W side = (side - first) * W := by
  unfold crs
  obtain ⟨q, rfl⟩ := hd
  rw [Int.mul_ediv_cancel_left _ (by have := ab_pos hw; omega)]
  unfold ab sgn
  by_cases h : 0 < way
  · rw [if_pos (show way > 0 from h), if_neg (show ¬ way < 0 by omega)]
    generalize side - first = A
    rw [Int.mul_one, Int.mul_left_comm]
  · rw [if_neg (show ¬ way > 0 from h), if_pos (show way < 0 by omega)]
    generalize side - first = A
    rw [Int.mul_neg, Int.mul_one, Int.mul_neg, Int.neg_mul, Int.mul_neg, Int.mul_left_comm]
theorem ab_dvd1 {r : Ln} (h : 2 * (r.2.1 - r.1.1) ≠ 0) : ab (2 * (r.2.1 - r.1.1)) ∣ wh r := by
  unfold wh
  rw [← m1_of h]
  exact Int.dvd_mul_right _ _
theorem ab_dvd2 {r : Ln} (h : 2 * (r.2.2 - r.1.2) ≠ 0) : ab (2 * (r.2.2 - r.1.2)) ∣ wh r := by
  unfold wh
  rw [← m1_of h]
  exact Int.dvd_mul_left _ _
theorem inB_iff (g start step k W s : Int) : inB g (2 * start) (2 * step) k W s = true ↔ HO1 g start step k s (2 * W) := by
  unfold inB HO1
  rw [Bool.and_eq_true, decide_eq_true_eq, decide_eq_true_eq]
  have e1 : 2 * (2 * k - 1) * g * W = (2 * k - 1) * g * (2 * W) := by grind
  have e2 : 2 * (2 * k + 1) * g * W = (2 * k + 1) * g * (2 * W) := by grind
  have e3 : 2 * start * 2 * W + 2 * step * s = 2 * (start * (2 * W) + step * s) := by grind
  rw [e1, e2, e3]
def keepS (W s : Int) : Bool := decide (0 ≤ s) && decide (s ≤ W)
def mids (L : List Int) : List Int := (L.dropLast.zip L.tail).map fun z => (z.1 + z.2) / 2
def inC (g : Int) (r : Ln) (c : Pt) (s : Int) : Bool := inB g (2 * r.1.1) (2 * (r.2.1 - r.1.1)) c.1 (wh r) s && inB g (2 * r.1.2) (2 * (r.2.2 - r.1.2)) c.2 (wh r) s
theorem shares_end {g : Int} {r : Ln} {c : Pt} {L T : List Int} (hp : L.Perm (((raw g r c).filter (keepS (wh r))).map fun s => 2 * s)) (hs : L.Pairwise (· ≤ ·)) (ht : T.Perm (L ++ mids L)) :
    (T.filter (inC g r c) ≠ [] ↔ Meets g r c) := by
  have W0 := wh_pos r
  have mem : ∀ s, keepS (wh r) s = true → s ∈ raw g r c → 2 * s ∈ L := fun s h1 h2 => hp.mem_iff.mpr (List.mem_map.mpr ⟨s, List.mem_filter.mpr ⟨h2, h1⟩, rfl⟩)
  have kp : ∀ s : Int, 0 ≤ s → s ≤ wh r → keepS (wh r) s = true := fun s h1 h2 => by unfold keepS; rw [decide_eq_true h1, decide_eq_true h2]; rfl
  have t := tried (g := g) (r := r) (c := c) W0 hs (fun s hs => by
    obtain ⟨x, hx, rfl⟩ := List.mem_map.mp (hp.mem_iff.mp hs)
    have k := (List.mem_filter.mp hx).2
    unfold keepS at k
    rw [Bool.and_eq_true, decide_eq_true_eq, decide_eq_true_eq] at k
    exact ⟨x, rfl, k.1, k.2⟩) (by have := mem 0 (kp 0 (by omega) (by omega)) (by simp [raw]); simpa using this) (mem (wh r) (kp _ (by omega) (by omega)) (by simp [raw]))
    (fun hx side hside => by
      have h2 : 2 * (r.2.1 - r.1.1) ≠ 0 := by omega
      refine ⟨crs (2 * r.1.1) (2 * (r.2.1 - r.1.1)) (wh r) side, crs_eq h2 (ab_dvd1 h2), fun k0 k1 => mem _ (kp _ k0 k1) ?_⟩
      unfold raw crsR
      rw [if_pos h2]
      simp only [List.mem_cons, List.not_mem_nil, or_false] at hside
      rcases hside with rfl | rfl <;> simp)
    (fun hx side hside => by
      have h2 : 2 * (r.2.2 - r.1.2) ≠ 0 := by omega
      refine ⟨crs (2 * r.1.2) (2 * (r.2.2 - r.1.2)) (wh r) side, crs_eq h2 (ab_dvd2 h2), fun k0 k1 => mem _ (kp _ k0 k1) ?_⟩
      unfold raw crsR
      rw [if_pos h2]
      simp only [List.mem_cons, List.not_mem_nil, or_false] at hside
      rcases hside with rfl | rfl <;> simp)
  rw [t]
  have hin : ∀ s, inC g r c s = true ↔ HOc g r c s (2 * wh r) := fun s => by
    unfold inC HOc
    rw [Bool.and_eq_true, inB_iff, inB_iff]
  constructor
  · intro hne
    obtain ⟨s, hs⟩ := List.exists_mem_of_ne_nil _ hne
    obtain ⟨h1, h2⟩ := List.mem_filter.mp hs
    exact ⟨s, ht.mem_iff.mp h1, (hin s).mp h2⟩
  · rintro ⟨s, h1, h2⟩ e
    have : s ∈ T.filter (inC g r c) := List.mem_filter.mpr ⟨ht.mem_iff.mpr h1, (hin s).mpr h2⟩
    rw [e] at this
    cases this
theorem AllAt.one {α : Type} {R : V → α → Prop} {vs : List V} {x : α} (h : AllAt R vs [x]) : ∃ v, vs = [v] ∧ R v x := by
  match vs, h with
  | [v], .cons h .nil => exact ⟨v, rfl, h⟩
theorem shapedPts (ps : List Pt) : SeqAt.shaped (.list (ps.map pd)) = true := by
  have h1 : ∀ ps : List Pt, PyData.canLayAll0 (ps.map pd) = true := by
    intro ls
    induction ls with
    | nil => rfl
    | cons n r ih => simp [PyData.canLayAll0, PyData.canLay0, pd, ih]
  have h2 : ∀ ps : List Pt, PyData.depthAll (ps.map pd) ≤ 1 := by
    intro ls
    induction ls with
    | nil => decide
    | cons n r ih =>
      simp only [List.map_cons, PyData.depthAll]
      have : (pd n).depth = 1 := by simp [pd, PyData.depth, PyData.depthAll]
      omega
  have h3 := h2 ps
  simp [SeqAt.shaped, PyData.canLay0, PyData.depth, h1]
  omega
theorem eqvNilP (ps : List Pt) : PyData.eqv (.list (ps.map pd)) (.list []) = ps.isEmpty := by
  cases ps <;> simp [PyData.eqv, PyData.eqvAll]
theorem pts_dp {K : PySem.W.Frag} {H : Hp} : ∀ {ws : List V} {ps : List Pt}, AllAt (At2 K H) ws ps → DpAll K H ws (ps.map pd)
  | _, _, .nil => .nil
  | _, _, .cons h t => .cons h.dp (pts_dp t)
end Cl

namespace Cl
open PySem PySem.Spec PyProof.Rows L2
/-! ### enumerate(tuple) -/
set_option maxHeartbeats 1000000 in
theorem meets_enum1B {v : Value} {o : Obj} {H : Heap → Prop} (B : Begins v o H) :
    _root_.PySem.Meets (Builtin.«enumerate.__new__» ⟨[.type "enumerate", v], []⟩) (fun _ R s => H s.heap ∧
      R (.ok (.ret (.ref (s.heap.push o).objs.size))) { s with heap := (s.heap.push o).push { cls := .type "enumerate", data := .fields #[.none, .bool false, .ref s.heap.objs.size, rawInt 0, .none, .none] } }) :=
  .of_wp fun prog w A R s h => by
    obtain ⟨hp, g, d, tk, os⟩ := s; obtain ⟨h1, h⟩ := h
    have hsub := sub_enumerate
    have q1 : ∀ {A' : Around} {E : Value → Shared → Prop} {Q : Value → Shared → Prop}, Q (.ref hp.objs.size) ⟨hp.push o, g, d, tk, os⟩ → wpAny (model prog w) A' (pyIter v) Q E ⟨hp, g, d, tk, os⟩ :=
      fun q => B.iter prog w _ _ ⟨hp, g, d, tk, os⟩ _ h1 q
    wp_walk using q1
    refine wpAny_stack_any fun st => wpAny_pure ?_
    split
    · rename_i c _ _ _ _ _
      cases (c == Value.type "enumerate")
      · wp_walk using q1
        exact ⟨_, rfl, h⟩
      · wp_walk using q1
        exact ⟨_, rfl, h⟩
    · wp_walk using q1
      exact ⟨_, rfl, h⟩
theorem enum_begins1 {prog : Program} {w : World} {A : Around} {E : Value → Shared → Prop} {s : Shared} {v : Value} {o : Obj} {H : Heap → Prop} {Q : Value → Shared → Prop} (B : Begins v o H) (h1 : H s.heap)
    (h : ∀ h', IsEnum h' (s.heap.objs.size + 1) s.heap.objs.size 0 .none → h'.get? s.heap.objs.size = some o → h'.objs.size = s.heap.objs.size + 2 →
      (∀ b o, s.heap.get? b = some o → h'.get? b = some o) → Q (.ref (s.heap.objs.size + 1)) { s with heap := h' }) :
    wpAny (model prog w) A (call (.type "enumerate") [v]) Q E s := by
  refine callType_new F.called_enumerate (by decide) (F.typeCall_enumerate_1 _) (F.newCall_enumerate_1 _) (fun obj => F.args_object_init_2 obj _) F.entry_enumerate_new
    (meets_enum1B B) ⟨h1, ?_⟩
  have hz : (s.heap.push o).objs.size = s.heap.objs.size + 1 := Heap.size_push ..
  show _ ∧ _
  rw [hz]
  have he : IsEnum ((s.heap.push o).push { cls := .type "enumerate", data := .fields #[.none, .bool false, .ref s.heap.objs.size, rawInt 0, .none, .none] }) (s.heap.objs.size + 1) s.heap.objs.size 0 .none := by
    have := Heap.get?_push_size (s.heap.push o) (o := { cls := .type "enumerate", data := .fields #[.none, .bool false, .ref s.heap.objs.size, rawInt 0, .none, .none] }) rfl
    rw [hz] at this; exact this
  refine ⟨⟨_, he, rfl⟩, h _ he (Heap.get?_push_of_some _ (Heap.get?_push_size _ B.free)) (by rw [Heap.size_push, hz]) fun b o x => Heap.get?_push_of_some _ (Heap.get?_push_of_some _ x)⟩
def Iet (K : PySem.W.Frag) (a : Addr) : It :=
  ⟨fun i H => ∃ (xs : List V) (x : V), SqT K H a xs ∧ xs[i]? = some x, fun i H v H' => ∃ T x, v = .ref T ∧ H T = none ∧ H' = upd H T (.tup [.int (i : Nat), x]) ∧ ∀ xs, SqT K H a xs → xs[i]? = some x, fun i H => ∃ xs : List V, SqT K H a xs ∧ xs.length = i⟩
theorem turn_enumT {P : Program} {w : World} {K : PySem.W.Frag} {elts : List Expr} {kk : Nat} {tpos : Pos} {a e it : Addr} (hei : e ≠ it) (hea : e ≠ a) (hia : it ≠ a) :
    Turn P w K (.Tuple elts kk tpos) (Iet K a) [e, it] e (fun i h => (∃ old, IsEnum h e it ((i : Nat) : Int) old) ∧ h.IsTupleIter it a i) where
  mem := by simp
  obj := fun i h st b hb => by
    obtain ⟨⟨old, he⟩, ⟨o, ho, hc, hd⟩⟩ := st
    have e' : b = e ∨ b = it := by simpa using hb
    rcases e' with z | z
    · rw [z]; exact ⟨_, he, fun v q => nomatch q⟩
    · rw [z]; exact ⟨o, ho, fun v q => by rw [hd] at q; cases q⟩
  keep := fun i h h' st k => let ⟨⟨old, he⟩, hi⟩ := st; ⟨⟨old, k e (by simp) _ he⟩, hi.at fun o q => k it (by simp) o q⟩
  item := by
    intro X hP hw hK hc i pins s σ H E I hf st hg
    subst hP hw hK
    obtain ⟨⟨old, he⟩, hit⟩ := st
    obtain ⟨xs, x, hq, hx⟩ := hg
    obtain ⟨its, rv, p, hz⟩ := I.tuple hq
    obtain ⟨u, hu, ru⟩ := rv.get hx
    have hl := rv.length
    have hlt : i < xs.length := (List.getElem?_eq_some_iff.mp hx).1
    have hh : X.A.in1.handled = none := I.ok.hd hc
    have W := GoesN.enumFrom (elts := elts) (x1 := kk) (pos := tpos) 0 (Draws.tuple (prog := X.prog) (w := X.w) hh it a (Ne.symm hia) its.toArray) e hei (by simp [hei, hea]) (by simp)
    refine W.goes i s _ E (by simp; omega) ⟨⟨old, by rw [Int.zero_add]; exact he⟩, hit, p⟩ fun v h' tk hY st' hk htk => ?_
    obtain ⟨T, t, y, rfl, hT, hy, hTup⟩ := hY
    obtain ⟨⟨old', he'⟩, hit', _⟩ := st'
    rw [Int.zero_add] at hTup he'
    have ey : u = y := by
      have h1 : its.toArray[i]? = some y := hy
      have h2 : its[i]? = some y := by simpa using h1
      rw [hu] at h2
      exact Option.some.inj h2
    subst ey
    have new : ObjOk X.prog X.w (upd H T (.tup [.int (i : Nat), x])) h' T (.tup [.int (i : Nat), x]) :=
      ⟨by show 2 ≤ sizeLine; decide, [_, u], .cons ⟨_, rfl⟩ (.cons ru .nil), hTup⟩
    have I1 := I.turnedNew (t' := tk) (ch := [e, it]) (fun d o hd q => hk d o hd q) hf hT new
    refine ⟨.ref T, _, I1, rfl, ⟨T, x, rfl, I.hok.fresh hT, rfl, fun ys hy => by rw [I.tuple_inj hy hq]; exact hx⟩, ⟨⟨old', he'⟩, hit'⟩, fun b hb => ?_⟩
    have hb' : b < s.heap.objs.size := by
      have e' : b = e ∨ b = it := by simpa using hb
      rcases e' with z | z
      · rw [z]; exact Heap.lt_size he
      · rw [z]; obtain ⟨_, q, _⟩ := hit; exact Heap.lt_size q
    rw [upd_ne (Nat.ne_of_lt (Nat.lt_of_lt_of_le hb' hT))]
    exact (hf b hb).1
  done := by
    intro X hP hw hK hc i pins s σ H E I hf st hg
    subst hP hw hK
    obtain ⟨⟨old, he⟩, hit⟩ := st
    obtain ⟨xs, hq, hx⟩ := hg
    obtain ⟨its, rv, p, hz⟩ := I.tuple hq
    have hl := rv.length
    have hh : X.A.in1.handled = none := I.ok.hd hc
    have W := GoesN.enumFrom (elts := elts) (x1 := kk) (pos := tpos) 0 (Draws.tuple (prog := X.prog) (w := X.w) hh it a (Ne.symm hia) its.toArray) e hei (by simp [hei, hea]) (by simp)
    have hi : i = its.toArray.size := by simp; omega
    subst hi
    exact W.stops s _ E ⟨⟨old, by rw [Int.zero_add]; exact he⟩, hit, p⟩ fun h' tk hk htk => I.turnedL (t' := tk) (ch := [e, it]) (fun d o hd q => hk d o hd q) hf
  self := fun A i s Q E st h => let ⟨⟨_, he⟩, _⟩ := st; wpAny_pyIter_enum he h
def iEnumT (K : PySem.W.Frag) (ta : TA) : TI := fun σ H R => ta σ H fun vs H1 => ∃ a xs, vs = [.ref a] ∧ SqT K H1 a xs ∧ R (Iet K a) H1
theorem pi_enumT {X : Cx} {e : Expr} {ta : TA} {p pos tpos : Pos} {elts : List Expr} {kk : Nat} (hg : Gl X "enumerate") (hm : X.mg "enumerate" = none) (ha : PA X [e] ta) (hs : starEach [e] X.env = [(false, eval e X.env)] := by rfl) :
    PI X (.Tuple elts kk tpos) (.Call (.Name "enumerate" p) [e] [] pos) (iEnumT X.K ta) := by
  refine ⟨fun pins s σ H R I h => ?_⟩
  refine Call_ (ld_blt I hg hm boot_enumerate (PyProof.Rows.callWith_type1 (thn (ha.run pos pins s σ H _ I h) fun us s1 ⟨vs, H1, I1, r1, q1⟩ => ?_) hs rfl))
  obtain ⟨a, xs, ex, hq, q⟩ := q1
  subst ex
  cases r1 with
  | cons r rr =>
    cases rr
    cases r
    obtain ⟨its, rv, p', hz⟩ := I1.tuple hq
    have la : a < s1.heap.objs.size := by obtain ⟨o1, g1, _⟩ := id p'; exact Heap.lt_size g1
    refine enum_begins1 (begins_tuple a its.toArray) p' fun h' he hit hsz hk => wpAny_pyIter_enum he ?_
    have I2 : Inv X pins σ H1 { s1 with heap := h' } := I1.kept (t' := s1.toks) hk
    refine ⟨s1.heap.objs.size + 1, [s1.heap.objs.size + 1, s1.heap.objs.size], _, _, H1, rfl, I2, turn_enumT (Nat.succ_ne_self _) (Nat.ne_of_gt (Nat.lt_succ_of_lt la)) (Nat.ne_of_gt la), ⟨⟨.none, he⟩, ⟨_, hit, rfl, rfl⟩⟩, fun b hb => ?_, q⟩
    have e' : b = s1.heap.objs.size + 1 ∨ b = s1.heap.objs.size := by simpa using hb
    have hle : s1.heap.objs.size ≤ b := by
      rcases e' with z | z
      · rw [z]; exact Nat.le_add_right _ _
      · rw [z]; exact Nat.le_refl _
    exact I1.fpOk hle (I1.hok.fresh hle)
theorem for_enumT {K : PySem.W.Frag} {a : Addr} {xs : List V} {g : TG} {tb : TS} {D : Ends} {σ : L2.St} {H : Hp} (Pv : Nat → L2.St → Hp → Prop) (h0 : Pv 0 σ H) (hq : ∀ i σ H, Pv i σ H → SqT K H a xs)
    (hs : ∀ (i : Nat) (x : V) (T : Addr) (σ : L2.St) (H : Hp), xs[i]? = some x → Pv i σ H → H T = none → g (.ref T) σ (upd H T (.tup [.int (i : Nat), x])) fun σ2 H2 => tb { D with nx := Pv (i + 1), ct := Pv (i + 1), bk := D.nx } σ2 H2) (hd : ∀ σ H, Pv xs.length σ H → D.nx σ H) :
    ∃ W : Nat → Nat → L2.St → Hp → Prop, (∃ m, W 0 m σ H) ∧ ∀ i m σ H, W i m σ H →
      ((Iet K a).stop i H ∧ D.nx σ H) ∨ ((Iet K a).go i H ∧ ∃ N : L2.St → Hp → Prop, (∀ σ' H', N σ' H' → ∃ m', m' < m ∧ W (i + 1) m' σ' H') ∧ ∀ v H', (Iet K a).yld i H v H' → g v σ H' fun σ2 H2 => tb { D with nx := N, ct := N, bk := D.nx } σ2 H2) := by
  refine ⟨fun i m σ H => m = xs.length - i ∧ i ≤ xs.length ∧ Pv i σ H, ⟨xs.length, rfl, Nat.zero_le _, h0⟩, ?_⟩
  rintro i m σ H ⟨rfl, hi, p⟩
  have qx := hq i σ H p
  by_cases hlt : i < xs.length
  · refine .inr ⟨⟨xs, xs[i], qx, List.getElem?_eq_getElem hlt⟩, Pv (i + 1), fun σ' H' p' => ⟨xs.length - (i + 1), by omega, rfl, hlt, p'⟩, fun v H' y => ?_⟩
    obtain ⟨T, x', rfl, hT, rfl, f1⟩ := y
    exact hs i x' T σ H (f1 xs qx) p hT
  · have e : i = xs.length := by omega
    subst e
    exact .inl ⟨⟨xs, qx, rfl⟩, hd σ H p⟩
/-! ### xs == [] -/
def rEqNil (K : PySem.W.Frag) : R2 := fun x y H Q => ∃ a b xs, x = .ref a ∧ y = .ref b ∧ SqL K H a xs ∧ SqL K H b [] ∧ Q (.bl xs.isEmpty) H
theorem op_eqNil {X : Cx} (hu : X.A.units + 64 < cLine) : OpR X (compareOp .Eq) (rEqNil X.K) := by
  intro pins s σ H x y v u Q I rx ry h
  obtain ⟨a, b, xs, rfl, rfl, ha, hb, q⟩ := h
  cases rx
  cases ry
  obtain ⟨its, rv, p, _⟩ := I.list ha
  obtain ⟨its2, rv2, p2, _⟩ := I.list hb
  cases rv2
  cases xs with
  | nil =>
    cases rv
    refine SeqAt.eq_listAt (e := fun _ => true) p.isList p2.isList rfl (by omega) (fun j h1 _ => absurd h1 (Nat.not_lt_zero _)) ?_
    exact ⟨.bl _, H, I, rfl, q⟩
  | cons x xs =>
    have hl := rv.length
    refine SeqAt.eq_list_lengthsAt p.isList p2.isList ?_ (by omega) ?_
    · rw [bne_iff_ne]
      simp only [List.size_toArray, List.length_nil]
      rw [← hl]
      simp
    · exact ⟨.bl _, H, I, rfl, q⟩
def rNeNil (K : PySem.W.Frag) : R2 := fun x y H Q => ∃ a b xs, x = .ref a ∧ y = .ref b ∧ SqL K H a xs ∧ SqL K H b [] ∧ Q (.bl (!xs.isEmpty)) H
section
variable {X : Cx} {K : PySem.W.Frag}
theorem op_eqNilk (hK : X.K = K) (hu : X.A.units + 64 < cLine) : OpR X (compareOp .Eq) (rEqNil K) := hK ▸ op_eqNil hu
theorem op_catTBk (hK : X.K = K) : OpR X (binaryOp .Add) (rCatTB K) := hK ▸ op_catTB
theorem call_reprk (hK : X.K = K) (hg : X.A.guards = some []) (hu : X.A.units + 64 < cLine) : CallR X (.builtin "repr") (rReprF K) := hK ▸ call_repr hg hu
theorem sl_tupBk (hK : X.K = K) : SlR X (rSlTB K) := hK ▸ sl_tupB
end
theorem acc_new {H5 H' : Hp} {pD : Addr} {ws : List V} {y : V} (nD : H5 pD = none) (t1 : Same H5 H') (e : H' pD = some (.lst ws)) (len : ws.length ≤ 900) :
    ∃ acc, H' pD = some (.lst acc) ∧ acc.length < sizeLine ∧ Same H5 (upd H' pD (.lst (acc ++ [y]))) ∧ (upd H' pD (.lst (acc ++ [y]))) pD = some (.lst (ws ++ [y])) := by
  refine ⟨ws, e, small1000 (by omega), fun b o z => ?_, upd_same⟩
  rw [upd_ne (ne_of_none z nD)]
  exact t1 _ _ z
theorem Same.seq {K : PySem.W.Frag} {H H' : Hp} {a : Addr} {xs : List V} (s : Same H H') (h : SqL K H a xs) : SqL K H' a xs := by
  rcases h with (h | ⟨o, h⟩) | h
  · exact .inl (.inl (s _ _ h))
  · exact .inl (.inr ⟨o, s _ _ h⟩)
  · exact .inr h
/-- a promise that nothing keeps: for a def's own calls at its last level -/
def spNever : Sp := fun _ _ _ _ => False
theorem never {P : Program} {w : World} {K : PySem.W.Frag} {mg : Str → Option Value} {base : Heap} {k : Nat} {f : Addr} {fd : FuncData} {ps : List Str} : FnG P w K mg base CX0 k f fd ps spNever :=
  ⟨fun _ _ _ _ h => h.elim, fun _ _ _ _ _ _ _ _ _ _ _ _ _ h => h.elim⟩
end Cl

namespace Cl
open PySem PySem.Spec PyProof.Rows L2
open GxR (TabB TabG Tabbed GenS inv_tab sh_eta)
/-! ### a tuple of tuples, walked -/
theorem letOwned_tupleiter {prog : Program} {w : World} {A : Around} {E : Value → Shared → Prop} {s : Shared} {elts : List Expr} {x1} {pos : Pos} {I l T : Addr} {i : Nat} {Q : Unit → Shared → Prop} (hit : s.heap.IsTupleIter I l i) (hQ : Q () s) :
    wpAny (model prog w) A (letOwnedTupleGo (.Tuple elts x1 pos) (.ref I) (.ref T)) Q E s := by
  obtain ⟨o, ho, hc, hd⟩ := hit
  unfold letOwnedTupleGo
  refine wpAny_bind (wpAny_load ho ?_)
  rw [hc, hd]
  show wpAny _ A (if (["enumerate", "zip", "dict_itemiterator", "dict_reverseitemiterator", "odict_iterator", "itertools.zip_longest", "itertools.pairwise"].contains "tuple_iterator" &&
      (#[.ref l, .int i 0] : Array Value)[0]? == some (rawInt T)) = true then _ else _) Q E s
  rw [if_neg (by
    intro h
    rw [show (["enumerate", "zip", "dict_itemiterator", "dict_reverseitemiterator", "odict_iterator", "itertools.zip_longest", "itertools.pairwise"].contains "tuple_iterator") = false from by decide, Bool.false_and] at h
    cases h)]
  exact wpAny_pure hQ
theorem walksTT {prog : Program} {w : World} {A : Around} (hh : A.handled = none) (I ax : Addr) (hne : ax ≠ I) (items : Array Value) (Ts : Nat → Addr) (vals : Nat → Array Value)
    (hit : ∀ j, j < items.size → items[j]? = some (.ref (Ts j))) (hTI : ∀ j, j < items.size → Ts j ≠ I) :
    WalksU prog w A I (I :: ax :: (List.range items.size).map Ts) [I] items.size (fun j v => j < items.size ∧ v = vals j)
      (fun j h => h.IsTupleIter I ax j ∧ h.IsTuple ax items ∧ ∀ k, k < items.size → h.IsTuple (Ts k) (vals k))
      (fun j T h => (j < items.size ∧ T = Ts j) ∧ h.IsTupleIter I ax (j + 1) ∧ h.IsTuple ax items ∧ ∀ k, k < items.size → h.IsTuple (Ts k) (vals k)) where
  sub := fun b hb => by simp at hb; simp [hb]
  frame := fun _ _ _ st hk => ⟨st.1.at fun o e => hk I (by simp) o e, st.2.1.at fun o e => hk ax (by simp) o e,
    fun k hk' => (st.2.2 k hk').at fun o e => hk (Ts k) (List.mem_cons_of_mem _ (List.mem_cons_of_mem _ (List.mem_map.mpr ⟨k, List.mem_range.mpr hk', rfl⟩))) o e⟩
  item := fun i s Q E hi st hQ => by
    refine wpAny_pyNext_tuple_item st.1 st.2.1 (x := .ref (Ts i)) (hit i hi) fun h' hit' hs' => ?_
    have tup : ∀ k, k < items.size → h'.IsTuple (Ts k) (vals k) := fun k hk' => (st.2.2 k hk').extBut hs'.extBut (hTI k hk')
    exact hQ (Ts i) (vals i) h' s.toks ⟨hi, rfl⟩ (tup i hi) ⟨⟨hi, rfl⟩, hit', st.2.1.extBut hs'.extBut hne, tup⟩ fun b o hb e => hs'.extBut b o (fun h => hb (by simp [h])) e
  go := fun _ _ _ _ _ s Q _ hm hQ => letOwned_tupleiter hm.2.1 (hQ s.heap hm.2 fun _ _ _ e => e)
  apart := fun j T _ hm hmem => by
    rcases List.mem_cons.mp hmem with e | e
    · exact hTI j hm.1.1 (hm.1.2 ▸ e)
    · cases e
  done := fun s Q E st hQ => wpAny_pyNext_tuple_end hh st.1 st.2.1 (by simp) fun h' he' => hQ h' s.toks fun b o hb e => he' b o (fun h => hb (by simp [h])) e
  self := fun _ _ _ _ st hQ => wpAny_pyIter_tupleiter st.1 hQ
/-! ### expressions of whole numbers, evaluated quietly -/
def Sees (P : Program) (w : World) (env : Env) (h : Heap) (e : Expr) (v : V) : Prop :=
  ∀ (A : Around) (E : Value → Shared → Prop) (Q : Value → Shared → Prop) (s : Shared), s.heap = h → (∀ u k, RelV v u → Q u { s with toks := k }) → wpAny (model P w) A (eval e env) Q E s
section
variable {P : Program} {w : World} {env : Env} {h : Heap} {x : Str} {a b : Expr} {i j : Int} {pos : Pos}
theorem sees_loc {m : Str → Option Value} {t : Tok} (hk : env.scope.kind = .function) (hl : env.scope.names.lookup x = some .local) (hn : h.Ns env.locals m) (hm : m x = some (.int i t)) (hd : (x == ("__debug__" : Str)) = false := by decide) : Sees P w env h (.Name x pos) (.int i) :=
  fun A E Q s hs q => wpAny_Name (wpAny_loadName_local hk hl (hs ▸ hn) hm (q _ s.toks ⟨t, rfl⟩)) hd
theorem sees_free {c : Addr} {t : Tok} (hk : env.scope.kind = .function) (hl : env.scope.names.lookup x = some .free) (hc : env.cells.lookup x = some c) (hv : h.IsCell c (some (.int i t))) (hd : (x == ("__debug__" : Str)) = false := by decide)
    (hcd : (x == ("__classdict__" : Str)) = false := by decide) : Sees P w env h (.Name x pos) (.int i) :=
  fun A E Q s hs q => wpAny_Name (wpAny_loadName_free hk hl hc (hs ▸ hv) (q _ s.toks ⟨t, rfl⟩) hcd) hd
theorem sees_int {k : Nat} : Sees P w env h (.Constant (.int i) k pos) (.int i) := fun A E Q s hs q => wpAny_Constant_int (q _ _ ⟨_, rfl⟩)
theorem sees_add (ha : Sees P w env h a (.int i)) (hb : Sees P w env h b (.int j)) : Sees P w env h (.BinOp a .Add b pos) (.int (i + j)) := fun A E Q s hs q => by
  refine wpAny_BinOp (ha A _ _ s hs fun u k r => hb A _ _ _ hs fun u' k' r' => ?_)
  obtain ⟨t, rfl⟩ := r
  obtain ⟨t', rfl⟩ := r'
  exact add_int (q _ _ ⟨_, rfl⟩)
theorem sees_mul (ha : Sees P w env h a (.int i)) (hb : Sees P w env h b (.int j)) (c : IntMulOk i j) : Sees P w env h (.BinOp a .Mult b pos) (.int (i * j)) := fun A E Q s hs q => by
  refine wpAny_BinOp (ha A _ _ s hs fun u k r => hb A _ _ _ hs fun u' k' r' => ?_)
  obtain ⟨t, rfl⟩ := r
  obtain ⟨t', rfl⟩ := r'
  exact mul_int (q _ _ ⟨_, rfl⟩) c
theorem sees_lt (ha : Sees P w env h a (.int i)) (hb : Sees P w env h b (.int j)) : Sees P w env h (.Compare a [.Lt] [b] pos) (.bl (decide (i < j))) := fun A E Q s hs q => by
  refine wpAny_Compare1 (ha A _ _ s hs fun u k r => hb A _ _ _ hs fun u' k' r' => ?_) (nomark b)
  obtain ⟨t, rfl⟩ := r
  obtain ⟨t', rfl⟩ := r'
  exact lt_int (q _ _ rfl)
theorem sees_gt (ha : Sees P w env h a (.int i)) (hb : Sees P w env h b (.int j)) : Sees P w env h (.Compare a [.Gt] [b] pos) (.bl (decide (j < i))) := fun A E Q s hs q => by
  refine wpAny_Compare1 (ha A _ _ s hs fun u k r => hb A _ _ _ hs fun u' k' r' => ?_) (nomark b)
  obtain ⟨t, rfl⟩ := r
  obtain ⟨t', rfl⟩ := r'
  exact gt_int (q _ _ rfl)
theorem sees_ge (ha : Sees P w env h a (.int i)) (hb : Sees P w env h b (.int j)) : Sees P w env h (.Compare a [.GtE] [b] pos) (.bl (decide (j ≤ i))) := fun A E Q s hs q => by
  refine wpAny_Compare1 (ha A _ _ s hs fun u k r => hb A _ _ _ hs fun u' k' r' => ?_) (nomark b)
  obtain ⟨t, rfl⟩ := r
  obtain ⟨t', rfl⟩ := r'
  exact ge_int (q _ _ rfl)
end
theorem cl_lookup {cells : List (Str × Addr)} {names : List (Str × NameKind)} {n : Str} {c : Addr} (h : (n, NameKind.free) ∈ names) (hc : cells.lookup n = some c) : (cloFrom cells names []).lookup n = some c := by
  have hm := cloFrom_has (cells := cells) (acc := []) h
  cases q : (cloFrom cells names []).lookup n with
  | none =>
    have : ∀ (L : List (Str × Addr)), L.lookup n = none → ∀ c, (n, c) ∉ L := fun L => by
      induction L with
      | nil => intro _ c z; cases z
      | cons y L ih =>
        obtain ⟨y1, y2⟩ := y
        intro e c z
        rw [List.lookup_cons] at e
        split at e
        · cases e
        · rename_i hb
          rcases List.mem_cons.mp z with z | z
          · cases z
            simp at hb
          · exact ih e c z
    exact absurd hm (this _ q _)
  | some c' =>
    have : ∀ (L : List (Str × Addr)) c', L.lookup n = some c' → (n, c') ∈ L := fun L => by
      induction L with
      | nil => intro c' z; cases z
      | cons y L ih =>
        obtain ⟨y1, y2⟩ := y
        intro c' e
        rw [List.lookup_cons] at e
        split at e
        · rename_i hb
          cases e
          rw [eq_of_beq hb]
          exact List.mem_cons_self ..
        · exact List.mem_cons_of_mem _ (ih _ e)
    rcases cloFrom_mem (this _ _ q) with z | ⟨_, z⟩
    · cases z
    · rw [z, hc]
      rfl
/-- a captured whole number -/
def CapI (cells : List (Str × Addr)) (h : Heap) (n : Str) (i : Int) : Prop := ∃ c t, cells.lookup n = some c ∧ h.IsCell c (some (.int i t))

theorem CapI.keeps {cells : List (Str × Addr)} {h h' : Heap} {n : Str} {i : Int} {P : Addr} {vs : Array Value} (x : CapI cells h n i) (hP : ∃ o, h.get? P = some o ∧ o.data = .fields vs) (k : ∀ b o, b ≠ P → h.get? b = some o → h'.get? b = some o) : CapI cells h' n i := by
  obtain ⟨c, t, e, o, g, d⟩ := x
  refine ⟨c, t, e, o, k c o (fun z => ?_) g, d⟩
  obtain ⟨o', g', d'⟩ := hP
  rw [z, g'] at g
  cases g
  rw [d] at d'
  cases d'
/-- the element: a test of the pair (x, y) and three captured whole numbers -/
def EltP (P : Program) (w : World) (scope : Scope) (xa xb n1 n2 n3 : Str) (elt : Expr) (C : Int → Int → Int → Int × Int → Prop) (f : Int → Int → Int → Int × Int → Bool) : Prop :=
  ∀ (cenv : Env) (h : Heap) (i1 i2 i3 x y : Int) (tx ty : Tok) (m : Str → Option Value), cenv.scope = scope → CapI cenv.cells h n1 i1 → CapI cenv.cells h n2 i2 → CapI cenv.cells h n3 i3 →
    h.Ns cenv.locals m → m xa = some (.int x tx) → m xb = some (.int y ty) → C i1 i2 i3 (x, y) → Sees P w cenv h elt (.bl (f i1 i2 i3 (x, y)))
structure GenP (env : Env) (scope : Scope) (xa xb n1 n2 n3 : Str) : Prop where
  kind : scope.kind = .function
  co : scope.isCoroutine = false
  cell : ∀ y ∈ scope.names, y.2 ≠ .cell
  dot : scope.names.lookup (".0" : Str) = some NameKind.local
  la : scope.names.lookup xa = some .local
  lb : scope.names.lookup xb = some .local
  ab : xa ≠ xb
  f1 : (n1, NameKind.free) ∈ scope.names
  f2 : (n2, NameKind.free) ∈ scope.names
  f3 : (n3, NameKind.free) ∈ scope.names
  free : ∀ y ∈ scope.names, y.2 = .free → y.1 = n1 ∨ y.1 = n2 ∨ y.1 = n3
  c1 : env.scope.names.lookup n1 = some .cell
  c2 : env.scope.names.lookup n2 = some .cell
  c3 : env.scope.names.lookup n3 = some .cell
  e1 : (env.cells.lookup n1).isSome = true
  e2 : (env.cells.lookup n2).isSome = true
  e3 : (env.cells.lookup n3).isSome = true
def tAllP (K : PySem.W.Frag) (P : Addr) (s1 s2 s3 : Nat) (C : Int → Int → Int → Int × Int → Prop) (f : Int → Int → Int → Int × Int → Bool) (te : TE) : TE := fun σ H Q => te σ H fun v H1 => ∃ (a : Addr) (vs : List V) (ps : List (Int × Int)) (i1 i2 i3 : Int), v = .ref a ∧ SqT K H1 a vs ∧ AllAt (At2 K H1) vs ps ∧
  σ[s1]? = some (some (.int i1)) ∧ σ[s2]? = some (some (.int i2)) ∧ σ[s3]? = some (some (.int i3)) ∧ (∀ p ∈ ps, C i1 i2 i3 p) ∧ TabG H1 P ∧ ∀ H2, Same H1 H2 → TabG H2 P → Q (.bl (ps.all (f i1 i2 i3))) H2
theorem cap_of {X : Cx} {pins : List (Addr × Obj)} {σ : L2.St} {H : Hp} {s : Shared} {i : Nat} {n : Str} {z : Int} (I : Inv X pins σ H s) (hN : X.N[i]? = some n) (hc : X.env.scope.names.lookup n = some .cell) (e : σ[i]? = some (some (.int z))) :
    CapI X.env.cells s.heap n z := by
  obtain ⟨m, hn, hl⟩ := I.loc
  obtain ⟨u, r, l⟩ := hl i n _ hN e (.inr (.inl hc))
  obtain ⟨t, rfl⟩ := r
  rcases l with ⟨hk, _⟩ | ⟨_, c, hc', hcell⟩
  · have : X.env.scope.names.lookup n = some .local := hk
    rw [hc] at this
    cases this
  · exact ⟨c, t, hc', hcell⟩

section
variable {X : Cx}
theorem pe_allP {c P : Addr} {elt iter : Expr} {xa xb n1 n2 n3 : Str} {pa pb pt p pos gpos : Pos} {kt : Nat} {scope : Scope} {te : TE} {k s1 s2 s3 : Nat} {C : Int → Int → Int → Int × Int → Prop} {f : Int → Int → Int → Int × Int → Bool}
    (hr : Room k X.A) (hg : Gl X "all") (hm : X.mg "all" = none) (TB : TabB X.base X.mg c P) (hcode : X.env.code = .ref c) (hi : PE X iter te) (S : GenP X.env scope xa xb n1 n2 n3)
    (hN1 : X.N[s1]? = some n1) (hN2 : X.N[s2]? = some n2) (hN3 : X.N[s3]? = some n3) (hel : EltP X.prog X.w scope xa xb n1 n2 n3 elt C f)
    (hs : ∀ v, genFold iter X.env v = pure v := by intro _; rfl)
    (he : starEach [.GeneratorExp elt [⟨.Tuple [.Name xa pa, .Name xb pb] kt pt, iter, [], 0⟩] scope gpos] X.env = (false, eval (.GeneratorExp elt [⟨.Tuple [.Name xa pa, .Name xb pb] kt pt, iter, [], 0⟩] scope gpos) X.env) :: starEach [] X.env := by rfl) :
    PE X (.Call (.Name "all" p) [.GeneratorExp elt [⟨.Tuple [.Name xa pa, .Name xb pb] kt pt, iter, [], 0⟩] scope gpos] [] pos) (tAllP X.K P s1 s2 s3 C f te) := by
  have isS : ∀ {o : Option Addr}, o.isSome = true → ∃ c, o = some c := fun {o} h => by cases o with
    | none => cases h
    | some c => exact ⟨c, rfl⟩
  have hfree : ∀ y ∈ scope.names, y.2 = .free → ∃ c, X.env.cells.lookup y.1 = some c := fun y hy e => by
    rcases S.free y hy e with z | z | z <;> rw [z]
    · exact isS S.e1
    · exact isS S.e2
    · exact isS S.e3
  refine ⟨fun pins s σ H Q I h => ?_⟩
  refine wpAny_Call_Name_kw (ld_blt I hg hm PyProof.Rows.boot_all ?_)
  refine PyProof.Rows.callWith_builtin1 ?_ he (by rfl)
  rw [he]
  show wpAny _ _ (spliced ((false, eval (.GeneratorExp elt [⟨.Tuple [.Name xa pa, .Name xb pb] kt pt, iter, [], 0⟩] scope gpos) X.env) :: backTo pos (starEach [] X.env))) _ _ s
  refine Calls.spliced_cons ?_
  refine wpAny_GeneratorExp_walksQTD hr.hd S.co (closure_ok hfree) S.cell S.dot S.la S.lb S.ab S.kind (by have := hr.dp; omega) ?_ hs
  refine thn (hi.run pins s σ H _ I h) fun xv s1' ⟨v, H1, I1, r1, q1⟩ => ?_
  obtain ⟨a, vs, prs, i1, i2, i3, rfl, hS, hall, g1, g2, g3, hC, hT, q⟩ := q1
  cases r1
  have k1 := cap_of I1 hN1 S.c1 g1
  have k2 := cap_of I1 hN2 S.c2 g2
  have k3 := cap_of I1 hN3 S.c3 g3
  have cl : ∀ {n : Str} {i : Int}, (n, NameKind.free) ∈ scope.names → CapI X.env.cells s1'.heap n i → CapI (cloFrom X.env.cells scope.names []) s1'.heap n i := fun h ⟨c, t, e, z⟩ => ⟨c, t, cl_lookup h e, z⟩
  replace k1 := cl S.f1 k1
  replace k2 := cl S.f2 k2
  replace k3 := cl S.f3 k3
  clear cl
  obtain ⟨ps, hP, ht⟩ := id hT
  obtain ⟨its, rv, tup, hz⟩ := I1.tuple hS
  have lx := rv.length
  have lp := hall.length
  have hpair : ∀ j, ∃ z : Addr × Array Value, j < its.length → ∃ x y t1 t2, its[j]? = some (.ref z.1) ∧ s1'.heap.IsTuple z.1 z.2 ∧ z.2 = #[.int x t1, .int y t2] ∧ prs[j]? = some (x, y) := fun j => by
    by_cases hj : j < its.length
    · obtain ⟨u, eu, ru⟩ := rv.get (List.getElem?_eq_getElem (show j < vs.length by omega))
      obtain ⟨pr, ep, b, eb, hb⟩ := hall.get (List.getElem?_eq_getElem (show j < vs.length by omega))
      rw [eb] at ru
      cases ru
      obtain ⟨its2, rv2, tup2, _⟩ := I1.tuple hb
      cases rv2 with
      | cons r1 rr =>
        cases rr with
        | cons r2 rr =>
          cases rr
          obtain ⟨t1, rfl⟩ := r1
          obtain ⟨t2, rfl⟩ := r2
          exact ⟨(b, #[.int pr.1 t1, .int pr.2 t2]), fun _ => ⟨pr.1, pr.2, t1, t2, eu, tup2, rfl, ep⟩⟩
    · exact ⟨(0, #[]), fun z => absurd z hj⟩
  obtain ⟨F, hF⟩ := Classical.skolem.mp hpair
  refine wpAny_pyIter_tuple tup ?_
  have hPs : s1'.heap.get? P = some { cls := .none, data := .fields ps } := I1.hok P _ hP
  have hPlt : P < s1'.heap.objs.size := Heap.lt_size hPs
  have halt : a < s1'.heap.objs.size := by obtain ⟨o, e, _⟩ := id tup; exact Heap.lt_size e
  have haP : a ≠ P := fun e => by
    obtain ⟨o, e1, e2, _⟩ := id tup
    rw [e, hPs] at e1
    cases e1
    cases e2
  have hTlt : ∀ j, j < its.length → (F j).1 < s1'.heap.objs.size ∧ (F j).1 ≠ P := fun j hj => by
    obtain ⟨_, _, _, _, _, tj, _, _⟩ := hF j hj
    obtain ⟨o, e1, e2, _⟩ := id tj
    refine ⟨Heap.lt_size e1, fun e => ?_⟩
    rw [e, hPs] at e1
    cases e1
    cases e2
  generalize hito : ({ cls := .type "tuple_iterator", data := .fields #[.ref a, .int 0 0] } : Obj) = ito
  have hP2 : (s1'.heap.push ito).get? P = some { cls := .none, data := .fields ps } := Heap.get?_push_of_some _ hPs
  have cd : PySem.W.CodeHd (s1'.heap.push ito) c P := TB.code.keeps fun b u e => Heap.get?_push_of_some _ (I1.bk b u e)
  have lim2 : (s1'.heap.push ito).NoLimit := I1.nolimit.push ito
  have sz2 : (s1'.heap.push ito).objs.size = s1'.heap.objs.size + 1 := Heap.size_push ..
  have cont : ∀ (code : Value) (h3 : Heap) (tk : Nat) (ps' : Array Value), Heap.ExtBut P (s1'.heap.push ito) h3 → (s1'.heap.push ito).objs.size ≤ h3.objs.size → h3.get? P = some { cls := .none, data := .fields ps' } → (∃ more, ps' = ps ++ more) → TriplesOk ps'.toList →
      wpAny (model X.prog X.w) X.A (builtinsFor X.env.globals X.env.builtins) (fun bi s₄ =>
        ∃ Ia fp wr n₀ Pt St₀ Mid pz F, Value.ref s1'.heap.objs.size = .ref Ia ∧ (∀ A' : Around, A'.handled = none → WalksU X.prog X.w A' Ia fp wr n₀ Pt St₀ Mid) ∧ (∀ i vals, Pt i vals → ∃ va vb, vals = #[va, vb]) ∧ St₀ 0 s₄.heap ∧ (∀ b ∈ fp, b < s₄.heap.objs.size) ∧ s₄.heap.NoLimit ∧ cStatics ∉ wr ∧
          (∀ href : Heap, (∀ b o, s₄.heap.get? b = some o → href.get? b = some o) →
            QuietGenTD X.prog X.w (genEnv scope (cloFrom X.env.cells scope.names []) s₄.heap.objs.size code bi X.env) xa xb [] elt (List.range s₄.heap.objs.size) wr Pt pz F href (X.A.depth + 1) (X.A.units + 8)) ∧
          (∀ a h₅ tk gs, gs.bare = true → s₄.heap.objs.size < a → h₅.objs.size = a + 1 → (∀ b o, s₄.heap.get? b = some o → h₅.get? b = some o) →
            WalksS X.prog X.w X.A.in4 a (a :: s₄.heap.objs.size :: List.range s₄.heap.objs.size) (s₄.heap.objs.size :: wr) (GenOnlyQ s₄.gens.size) (passing pz n₀ 0).length
              (fun j y => ∃ i, (passing pz n₀ 0)[j]? = some i ∧ F i y) (GenAt X.prog X.w X.A.in4 a s₄.gens.size s₄.heap.objs.size (List.range s₄.heap.objs.size) wr pz n₀ F) →
            GenAt X.prog X.w X.A.in4 a s₄.gens.size s₄.heap.objs.size (List.range s₄.heap.objs.size) wr pz n₀ F 0 { s₄ with gens := s₄.gens.push gs, toks := tk, heap := h₅ } →
            wpAny (model X.prog X.w) X.A (spliced (backTo pos (starEach [] X.env))) (fun vs s2 => wpAny (model X.prog X.w) X.A (call (.builtin "all") (.ref a :: vs)) (EP X pins σ Q) X.xe s2) X.xe { s₄ with gens := s₄.gens.push gs, toks := tk, heap := h₅ })) X.xe { s1' with heap := h3, toks := tk } := by
    intro code h3 tk ps' hx hsz hP3 hmore ht3
    obtain ⟨bm, ob, e1, e2, e3, e4, e5, e6, e7, e8⟩ := TB.bm
    have keep3 : ∀ b u, b ≠ P → s1'.heap.get? b = some u → h3.get? b = some u := fun b u hb e => hx b u hb (Heap.get?_push_of_some _ e)
    have hcP : cStatics ≠ P := fun e => by
      obtain ⟨_, hns, _⟩ := I1.nolimit
      obtain ⟨o', es, ep, ho, hd, _⟩ := hns
      rw [e, hPs] at ho
      cases ho
      cases hd
    have hcl : cStatics < s1'.heap.objs.size := let ⟨_, hns, _⟩ := I1.nolimit; hns.lt
    have szle : s1'.heap.objs.size < h3.objs.size := by rw [sz2] at hsz; exact hsz
    refine wpAny_builtinsFor (m := X.mg) (by rw [I1.ok.glob]; exact ((I1.mod.glob.keeps I1.bk).push ito).extBut hx TB.gP) e1 e2 (keep3 _ _ e4 (I1.bk _ _ e5)) e6 e7 e8 ?_
    refine ⟨s1'.heap.objs.size, _, [s1'.heap.objs.size], its.toArray.size, _, _, _, (fun _ => true), (fun i y => i < its.toArray.size ∧ y = .bool (f i1 i2 i3 (prs.getD i (0, 0)))), rfl,
      fun A' hA => walksTT hA s1'.heap.objs.size a (Nat.ne_of_lt halt) its.toArray (fun j => (F j).1) (fun j => (F j).2) (fun j hj => ?_) (fun j hj => ?_), ?_, ⟨?_, ?_, ?_⟩, ?_, lim2.extBut hx hcP, ?_, ?_, ?_⟩
    · have hj : j < its.length := by simpa using hj
      obtain ⟨_, _, _, _, ej, _⟩ := hF j hj
      simpa using ej
    · have hj : j < its.length := by simpa using hj
      exact Nat.ne_of_lt (hTlt j hj).1
    · rintro i vals ⟨hi', rfl⟩
      have hi' : i < its.length := by simpa using hi'
      obtain ⟨x, y, t1, t2, _, _, e, _⟩ := hF i hi'
      exact ⟨_, _, e⟩
    · refine ⟨ito, hx _ _ (fun z => Nat.ne_of_lt hPlt z.symm) (Heap.get?_push_size _ (by rw [← hito]; rfl)), by rw [← hito], by rw [← hito]; rfl⟩
    · obtain ⟨o, g1, g2, g3⟩ := id tup
      exact ⟨o, keep3 a o haP g1, g2, g3⟩
    · intro j hj
      have hj : j < its.length := by simpa using hj
      obtain ⟨_, _, _, _, _, ⟨o, g1, g2, g3⟩, _⟩ := hF j hj
      exact ⟨o, keep3 _ o (hTlt j hj).2 g1, g2, g3⟩
    · intro b hb
      show b < h3.objs.size
      rcases List.mem_cons.mp hb with z | z
      · rw [z]; exact szle
      · rcases List.mem_cons.mp z with z | z
        · rw [z]; exact Nat.lt_trans halt szle
        · obtain ⟨j, hj, rfl⟩ := List.mem_map.mp z
          have hj : j < its.length := by simpa using hj
          exact Nat.lt_trans (hTlt j hj).1 szle
    · intro z
      rw [List.mem_singleton.mp z] at hcl
      exact Nat.lt_irrefl _ hcl
    · intro href hhref
      refine ⟨fun A' E' i va vb s₂ m₂ hA hD hU hPv hn hma hmb hk => ?_, fun A' E' i va vb s₂ m₂ hA hD hU hPv hp hn hma hmb hk => ?_⟩
      · simp only [List.forIn_nil]
        exact wpAny_pure ⟨rfl, GxR.keeps_refl _⟩
      · have key : ∀ b o, b ≠ P → s1'.heap.get? b = some o → s₂.heap.get? b = some o := fun b o hb e =>
          hk b (List.mem_range.mpr (Heap.lt_size (keep3 b o hb e))) (fun z => by
            have l := Heap.lt_size e
            rw [List.mem_singleton.mp z] at l
            exact Nat.lt_irrefl _ l) o (hhref b o (keep3 b o hb e))
        obtain ⟨hi0, ev⟩ := hPv
        have hi' : i < its.length := by simpa using hi0
        obtain ⟨x, y, t1, t2, _, _, e, ep⟩ := hF i hi'
        rw [e] at ev
        cases ev
        have hPd : ∃ o, s1'.heap.get? P = some o ∧ o.data = .fields ps := ⟨_, hPs, rfl⟩
        have see := hel (genEnv scope (cloFrom X.env.cells scope.names []) h3.objs.size code builtinsNs X.env) s₂.heap i1 i2 i3 x y t1 t2 m₂ rfl (k1.keeps hPd key) (k2.keeps hPd key) (k3.keeps hPd key) hn hma hmb (hC _ (List.mem_of_getElem? ep))
        refine see A' E' _ s₂ rfl fun u kk r => ?_
        cases r
        refine ⟨⟨hi0, ?_⟩, GxR.keeps_tok _ _⟩
        rw [List.getD_eq_getElem?_getD, ep]
        rfl
    · intro g h5 tk5 gs hgb hag hsz5 hk5 W5 hat
      simp only [GxR.passing_true, List.length_range] at W5
      refine Calls.spliced_nil ?_
      have W := W5.in4_1
      refine call_all_walkS (W.self 0 _ _ _ hat ⟨g, _, _, _, _, _, _, fun j => f i1 i2 i3 (prs.getD j (0, 0)), rfl, W, hat, ?_, fun s' hm => ?_⟩)
      · intro j y sj Qj Ej hy hQj
        obtain ⟨i, hij, hi2, rfl⟩ := hy
        try rw [GxR.passing_true] at hij
        obtain ⟨hj, ej⟩ := List.getElem?_eq_some_iff.mp hij
        rw [List.getElem_range] at ej
        subst ej
        exact wpAny_truthy_bool hQj
      · obtain ⟨more, em⟩ := hmore
        have nwr : ∀ b u, s1'.heap.get? b = some u → b ∉ h3.objs.size :: [s1'.heap.objs.size] := fun b u e hb => by
          have hl := Heap.lt_size e
          simp only [List.mem_cons, List.not_mem_nil, or_false] at hb
          rcases hb with z | z
          · rw [z] at hl
            have h9 : (h3.objs.size : Nat) < s1'.heap.objs.size := hl
            omega
          · rw [z] at hl
            exact Nat.lt_irrefl _ hl
        have J := inv_tab (more := more) (h' := s'.heap) (g' := s'.gens) (d' := s'.drawn) (t' := s'.toks) I1 hP (fun b u hb e => hm.heap b u (nwr b u e) (hk5 b u (keep3 b u hb e)))
          (by rw [← em]; exact hm.heap P _ (nwr P _ hPs) (hk5 P _ hP3)) (AllBare.movedS (I1.bare.push hgb) hm)
        rw [sh_eta s1' s' hm.os] at J
        have tb : Tabbed P H1 (upd H1 P (.tbl (ps ++ more))) := ⟨⟨ps ++ more, upd_same, by rw [← em]; exact ht3⟩, fun b hb => upd_ne hb⟩
        refine ⟨.bl _, _, J, ?_, q _ (Same.tabbed hT tb) tb.1⟩
        show Value.bool _ = Value.bool _
        have hall2 := all_range (prs.map (f i1 i2 i3))
        rw [List.length_map, List.all_map] at hall2
        have e9 : (List.range its.toArray.size).all (fun j => f i1 i2 i3 (prs.getD j (0, 0))) = (List.range prs.length).all fun j => (prs.map (f i1 i2 i3)).getD j false := by
          rw [show its.toArray.size = prs.length by simp; omega, Bool.eq_iff_iff, List.all_eq_true, List.all_eq_true]
          constructor
          · intro z j hj
            have := z j hj
            have hj := List.mem_range.mp hj
            rw [List.getD_eq_getElem?_getD, List.getElem?_eq_getElem hj] at this
            rw [List.getD_eq_getElem?_getD, List.getElem?_map, List.getElem?_eq_getElem hj]
            exact this
          · intro z j hj
            have := z j hj
            have hj := List.mem_range.mp hj
            rw [List.getD_eq_getElem?_getD, List.getElem?_map, List.getElem?_eq_getElem hj] at this
            rw [List.getD_eq_getElem?_getD, List.getElem?_eq_getElem hj]
            exact this
        rw [e9, hall2]
        rfl
  refine ⟨lim2, ?_⟩
  cases hf : codeAmong gpos ps.toList with
  | none =>
    refine wpAny_genexprCodeX hcode (cd.code hP2 ht) (cd.tab hP2) hf fun c' h' tk hx hge hlt hco' _ htab' _ => ?_
    obtain ⟨o1, vs, f1, tf, fl, tg, inF, tx, tt, op, _, _, _, _, _, _, _, _, _, htr, _⟩ := hco'
    exact cont _ h' tk _ hx (Nat.le_trans hge (Nat.le_of_lt hlt)) htab'.2 ⟨_, rfl⟩ htr
  | some cv =>
    refine wpAny_genexprCode_hit hcode (cd.code hP2 ht) hf ?_
    exact cont cv (s1'.heap.push ito) s1'.toks ps (Heap.ExtBut.refl _ _) (Nat.le_refl _) hP2 ⟨#[], by simp⟩ ht
end
/-! ### thing == () -/
def rEqTNil (K : PySem.W.Frag) : R2 := fun x y H Q => ∃ a b xs, x = .ref a ∧ y = .ref b ∧ SqT K H a xs ∧ SqT K H b [] ∧ Q (.bl xs.isEmpty) H
theorem op_eqTNil {X : Cx} (hu : X.A.units + 64 < cLine) : OpR X (compareOp .Eq) (rEqTNil X.K) := by
  intro pins s σ H x y v u Q I rx ry h
  obtain ⟨a, b, xs, rfl, rfl, ha, hb, q⟩ := h
  cases rx
  cases ry
  obtain ⟨its, rv, p, _⟩ := I.tuple ha
  obtain ⟨its2, rv2, p2, _⟩ := I.tuple hb
  cases rv2
  refine SeqAt.eq_tupleAt (e := fun _ => true) p p2 (by omega) (fun j h1 h2 => absurd h2 (Nat.not_lt_zero _)) ?_
  have hl := rv.length
  refine ⟨.bl _, H, I, ?_, q⟩
  show Value.bool _ = Value.bool _
  cases xs with
  | nil =>
    have : its = [] := List.eq_nil_of_length_eq_zero hl.symm
    subst this
    rfl
  | cons x xs =>
    cases its with
    | nil => simp at hl
    | cons i its => simp
end Cl

namespace Cl
open PySem PySem.Spec PyProof.Rows L2
/-! ### comprehensions with two fors over tuples -/
theorem genT {K : PySem.W.Frag} {a : Addr} {xs : List V} {H0 : Hp} {Qd : Hp → Prop} {BODY : V → Hp → (Hp → Prop) → Prop} (Pv : Nat → Hp → Prop) (h0 : Pv 0 H0) (hl : ∀ i H, i ≤ xs.length → Pv i H → SqT K H a xs)
    (hs : ∀ i x H, xs[i]? = some x → Pv i H → BODY x H (Pv (i + 1))) (hd : ∀ H, Pv xs.length H → Qd H) :
    ∃ W : Nat → Nat → Hp → Prop, (∃ m, W 0 m H0) ∧ ∀ i m H, W i m H → ((Itt K a).stop i H ∧ Qd H) ∨ ((Itt K a).go i H ∧ ∃ Nx : Hp → Prop, (∀ H', Nx H' → ∃ m', m' < m ∧ W (i + 1) m' H') ∧ ∀ x H', (Itt K a).yld i H x H' → BODY x H' Nx) := by
  refine ⟨fun i m H => m = xs.length - i ∧ i ≤ xs.length ∧ Pv i H, ⟨xs.length, by simp, Nat.zero_le _, h0⟩, ?_⟩
  rintro i m H ⟨rfl, hi, p⟩
  have q := hl i H hi p
  by_cases hlt : i < xs.length
  · refine .inr ⟨⟨xs, xs[i], q, List.getElem?_eq_getElem hlt⟩, Pv (i + 1), fun H' p' => ⟨xs.length - (i + 1), by omega, rfl, hlt, p'⟩, fun x H' y => ?_⟩
    obtain ⟨e, y⟩ := y
    subst e
    exact hs i x _ (y xs q) p
  · have e : i = xs.length := by omega
    subst e
    exact .inl ⟨⟨xs, q, Nat.le_refl _⟩, hd H p⟩
section
variable {X : Cx} {K : PySem.W.Frag} {tg e : Expr} {te : TE}
theorem pi_tupk (hK : X.K = K) (h : PE X e te) : PI X tg e (iTup K te) := hK ▸ pi_tup h
theorem pi_listk (hK : X.K = K) (h : PE X e te) : PI X tg e (iList K te) := hK ▸ pi_list h
end
end Cl

set_option maxHeartbeats 0
namespace Cl
open PySem PySem.Spec PyProof.Rows L2
/-! ### a lambda of one parameter, made within a def, handed to max as key -/
/-- the table at P: what it tells are the objects at cs -/
def TabAt (P : Addr) (cs : List Addr) : HO := .ext fun h => ∃ ps : Array Value, h.get? P = some { cls := .none, data := .fields ps } ∧ TriplesOk ps.toList ∧ ∀ (pos : Pos) (cv : Value), codeAmong pos ps.toList = some cv → ∃ c ∈ cs, cv = .ref c
/-- the lambda table at P stands: its codes bear the name q -/
def LT (H : Hp) (P : Addr) (q : Str) : Prop := ∃ cs : List Addr, H P = some (TabAt P cs) ∧ ∀ c ∈ cs, c ≠ P ∧ H c = some (LamX.CodeO c q)
theorem Same.lt {H H' : Hp} {P : Addr} {q : Str} (s : Same H H') (t : LT H P q) : LT H' P q := by
  obtain ⟨cs, h1, h2⟩ := t
  exact ⟨cs, s _ _ h1, fun c hc => ⟨(h2 c hc).1, s _ _ (h2 c hc).2⟩⟩
/-- all but the table at P stays -/
def SameX (P : Addr) (H H' : Hp) : Prop := ∀ b o, b ≠ P → H b = some o → Keep (H' b) o
theorem SameX.trans {P : Addr} {H H1 H2 : Hp} (a : SameX P H H1) (b : SameX P H1 H2) : SameX P H H2 := fun c o n h => by
  have k := a c o n h
  cases o with
  | tbl ps => exact fun t => let ⟨ps1, e1, t1⟩ := k t; b c (.tbl ps1) n e1 t1
  | _ => exact b c _ n k
theorem Same.x {P : Addr} {H H' : Hp} (a : Same H H') : SameX P H H' := fun b o _ e => a b o e
section
variable {X : Cx} {pins : List (Addr × Obj)} {σ : L2.St} {H : Hp} {s : Shared}
theorem inv_tabE {P c : Addr} {q : Str} {cs : List Addr} {ps more : Array Value} {h' : Heap} {t' : Nat} (I : Inv X pins σ H s) (hP : H P = some (TabAt P cs)) (k : ∀ b o, b ≠ P → s.heap.get? b = some o → h'.get? b = some o)
    (hm : h'.get? P = some { cls := .none, data := .fields (ps ++ more) }) (ht : TriplesOk (ps ++ more).toList) (ha : ∀ (pos : Pos) (cv : Value), codeAmong pos (ps ++ more).toList = some cv → ∃ c' ∈ c :: cs, cv = .ref c') (hc : s.heap.objs.size ≤ c) (ho : ∃ (oc : Obj) (vs : Array Value) (t : Tok), h'.get? c = some oc ∧ oc.data = .fields vs ∧ vs[1]? = some (.str q t)) :
    Inv X pins σ (upd (upd H P (TabAt P (c :: cs))) c (LamX.CodeO c q)) { s with heap := h', toks := t' } := by
  have nC : H c = none := I.hok.fresh hc
  have nPc : P ≠ c := ne_of_none hP nC
  have at_ : ∀ b, b ≠ P → b ≠ c → upd (upd H P (TabAt P (c :: cs))) c (LamX.CodeO c q) b = H b := fun b h1 h2 => by rw [upd_ne h2, upd_ne h1]
  have atP : upd (upd H P (TabAt P (c :: cs))) c (LamX.CodeO c q) P = some (TabAt P (c :: cs)) := by rw [upd_ne nPc, upd_same]
  have nP : ∀ b u, H b = some u → (∀ φ, u ≠ .ext φ) → b ≠ P := fun b u e q z => by
    rw [z, hP] at e
    exact q _ (Option.some.inj e).symm
  have nN : ∀ b, H b = none → b ≠ P := fun b e z => by
    rw [z, hP] at e
    cases e
  have lt' : ∀ b o, s.heap.get? b = some o → b ≠ c := fun b o e z => by
    rw [z] at e
    exact Nat.lt_irrefl _ (Nat.lt_of_lt_of_le (Heap.lt_size e) hc)
  have sm : ∀ b u, H b = some u → b ≠ c := fun b u e => ne_of_none e nC
  refine I.step (g' := s.gens) (d' := s.drawn) (ch := []) (fun b hb => absurd hb (by simp)) (fun b o _ _ _ e n => k b o (nN b n) e) (fun b o _ _ _ e n => ⟨o.slots, k b o (nN b n) e⟩)
    (fun b o _ e n => by rw [at_ b (nN b n) (lt' b o e)]; exact n) (fun b o _ e => ?_) (fun b xs e => by rw [at_ b (nP b _ e (fun q z => by cases z)) (sm b _ e)]; exact e) (fun b o u e => by rw [at_ b (nP b _ e (fun q z => by cases z)) (sm b _ e)]; exact e) (fun b qs e => ?_) (fun m hn => ?_) (fun b u e => ?_) I.bare
  · by_cases hb : b = P
    · rw [hb]
      exact ⟨_, hm⟩
    · exact ⟨o, k b o hb e⟩
  · rw [at_ b (nP b _ e (fun q z => by cases z)) (sm b _ e), e]
    exact ⟨#[], by simp⟩
  · obtain ⟨ob, es, ep, ho, r⟩ := hn
    exact ⟨ob, es, ep, k _ ob (nN _ I.free) ho, r⟩
  · by_cases hb : b = c
    · rw [hb, upd_same] at e
      cases e
      rw [hb]
      obtain ⟨oc, vs, t, e1, e2, e3⟩ := ho
      exact ⟨⟨oc, vs, t, e1, e2, e3⟩, ⟨oc, e1⟩, fun h1 h2 ⟨oc, vs, t, a, b, c⟩ st => ⟨oc, vs, t, st _ a, b, c⟩⟩
    · by_cases hb2 : b = P
      · rw [hb2, atP] at e
        cases e
        rw [hb2]
        exact ⟨⟨_, hm, ht, ha⟩, ⟨_, hm⟩, fun h1 h2 ⟨ps, a, b, c⟩ st => ⟨ps, st _ a, b, c⟩⟩
      · rw [at_ b hb2 hb] at e
        refine (I.hok b u e).stay (fun d v hd q => k d v ?_ q) (fun d q => by rw [at_ d (nP d _ q (fun q z => by cases z)) (sm d _ q)]; exact q) fun d xs q => by rw [at_ d (nP d _ q (fun q z => by cases z)) (sm d _ q)]; exact q
        rcases hd with z | z
        · rw [z]
          exact hb2
        · exact nP d _ z (fun q z => by cases z)
/-- the lambda's object -/
def LamO (X : Cx) (params : Arguments) (body : Expr) (scope : Scope) (c' f : Addr) : HO := .ext fun h => ∃ pm ctv : Value, h.get? f = some (PySem.W.kla_obj "<lambda>" (X.env.qual ++ "<lambda>") params body scope (cloFrom X.env.cells scope.names []) pm c' ctv)
theorem lam_make3 {c P : Addr} {params : Arguments} {body : Expr} {scope : Scope} {pos : Pos} {E : Value → Shared → Prop} {Q : Value → Shared → Prop} (I : Inv X pins σ H s) (TB : GxR.TabB X.base X.mg c P) (hcode : X.env.code = .ref c)
    (hT : LT H P (X.env.qual ++ "<lambda>")) (hdef : defaultsOf params X.env = ([], [])) (hfree : ∀ y ∈ scope.names, y.2 = .free → ∃ c, X.env.cells.lookup y.1 = some c)
    (h : ∀ (f c' : Addr) (H1 : Hp) (s' : Shared), Inv X pins σ H1 s' → SameX P H H1 → LT H1 P (X.env.qual ++ "<lambda>") →
      H1 f = some (LamO X params body scope c' f) → H1 c' = some (LamX.CodeO c' (X.env.qual ++ "<lambda>")) → Q (.ref f) s') :
    wpAny (model X.prog X.w) X.A (eval (.Lambda params body scope pos) X.env) Q E s := by
  obtain ⟨cs, hP, hcs⟩ := hT
  obtain ⟨⟨ps, hP', ht, ha⟩, _, _⟩ := I.hok P _ hP
  refine PySem.W.kla_eval hdef ?_
  have bP : s.heap.BuiltinsAt X.mg P := TB.bm.keeps I.bk
  have fin : ∀ (f c' : Addr) (pm ctv : Value) (H1 : Hp) (s' : Shared) (o : Obj) (tk : Nat), Inv X pins σ H1 { s' with toks := tk } → SameX P H H1 → LT H1 P (X.env.qual ++ "<lambda>") → H1 c' = some (LamX.CodeO c' (X.env.qual ++ "<lambda>")) → s'.heap.objs.size = f →
      o = PySem.W.kla_obj "<lambda>" (X.env.qual ++ "<lambda>") params body scope (cloFrom X.env.cells scope.names []) pm c' ctv → Q (.ref f) { s' with heap := s'.heap.push o, toks := tk } := by
    intro f c' pm ctv H1 s' o tk J sx lt hc hf ho
    have hg : (s'.heap.push o).get? f = some o := by rw [← hf, ho]; exact Heap.get?_push_size _ rfl
    have nf : H1 f = none := J.hok.fresh (by show s'.heap.objs.size ≤ f; rw [hf]; exact Nat.le_refl _)
    have J2 := J.laid (a := f) (o := LamO X params body scope c' f) (h' := s'.heap.push o) (t' := tk) (fun b u e => Heap.get?_push_of_some _ e) (by show s'.heap.objs.size ≤ f; rw [hf]; exact Nat.le_refl _)
      ⟨⟨pm, ctv, by rw [hg, ho]⟩, ⟨o, hg⟩, fun h1 h2 ⟨pm, ctv, a⟩ st => ⟨pm, ctv, st _ a⟩⟩
    have sn := same_new (o := LamO X params body scope c' f) nf
    exact h f c' _ _ J2 (sx.trans sn.x) (sn.lt lt) upd_same (sn _ _ hc)
  cases hc : codeAmong pos ps.toList with
  | none =>
    refine PySem.W.kla_makeFunction (mg := X.mg) (c := c) (P := P) (ps := ps) (closure_ok hfree) I.ok.glob (I.mod.glob.keeps I.bk) hcode (TB.code.keeps I.bk) hP' ht hc TB.gP bP fun c' ctv h' tk hx hge hlt hrec htb => ?_
    obtain ⟨c2, oc, vs, t, e2, hoc, hd, hv⟩ := hrec
    cases e2
    have nC : H c' = none := I.hok.fresh hge
    have eL : (ps ++ #[rawInt pos.line, rawInt pos.col, .ref c']).toList = ps.toList ++ [rawInt pos.line, rawInt pos.col, .ref c'] := by simp
    have I1 := inv_tabE (t' := tk) (ps := ps) (more := #[rawInt pos.line, rawInt pos.col, .ref c']) (c := c') (q := X.env.qual ++ "<lambda>") (h' := h') I hP
      (fun b o hb e => hx b o hb e) htb (by rw [eL]; exact PySem.TriplesOk_snoc _ _ _ _ ht) (fun p' cv hcv => by
        rw [eL] at hcv
        rcases LamX.among_app _ ht hcv with z | z
        · obtain ⟨c0, e1, e2⟩ := ha p' cv z
          exact ⟨c0, List.mem_cons_of_mem _ e1, e2⟩
        · exact ⟨c', List.mem_cons_self .., z⟩) hge ⟨oc, vs, t, hoc, hd, hv⟩
    refine fin h'.objs.size c' ((X.mg "__name__").getD .none) ctv _ { s with heap := h' } _ tk I1 (fun b o nb e => ?_) ⟨c' :: cs, ?_, fun c0 h0 => ?_⟩ upd_same rfl rfl
    · rw [upd_ne (ne_of_none e nC), upd_ne nb]
      exact .of e
    · rw [upd_ne (ne_of_none hP nC), upd_same]
    · rcases List.mem_cons.mp h0 with rfl | h0
      · exact ⟨(ne_of_none hP nC).symm, upd_same⟩
      · obtain ⟨n0, e⟩ := hcs c0 h0
        refine ⟨n0, ?_⟩
        rw [upd_ne (ne_of_none e nC), upd_ne n0]
        exact e
  | some cv =>
    obtain ⟨c', hm, e⟩ := ha pos cv hc
    subst e
    refine PySem.W.kla_makeFunctionHit (mg := X.mg) (c := c) (P := P) (ps := ps) (closure_ok hfree) I.ok.glob (I.mod.glob.keeps I.bk) hcode (TB.code.keeps I.bk) hP' ht hc bP fun ctv h' tk hx hsz => ?_
    have I1 : Inv X pins σ H { s with heap := h', toks := tk } := I.kept hx
    exact fin h'.objs.size c' ((X.mg "__name__").getD .none) ctv H { s with heap := h' } _ tk I1 (fun b o _ e => .of e) ⟨cs, hP, hcs⟩ (hcs c' hm).2 rfl rfl
end
end Cl

set_option maxHeartbeats 0
namespace Cl
open PySem PySem.Spec PyProof.Rows L2
/-- a lambda's scope: its one parameter a, captured names, globals -/
structure LamK (sc scope : Scope) (a : Str) : Prop where
  kind : scope.kind = .function
  co : scope.isCoroutine = false
  gen : scope.isGenerator = false
  nocell : ∀ y ∈ scope.names, y.2 ≠ .cell
  own : ∀ y ∈ scope.names, y.2 = .local → y.1 = a
  par : scope.names.lookup a = some .local
  free : ∀ y ∈ scope.names, y.2 = .free → sc.names.lookup y.1 = some .cell ∨ sc.names.lookup y.1 = some .free
def lamKB (sc scope : Scope) (a : Str) : Bool :=
  decide (scope.kind = .function) && (!scope.isCoroutine && (!scope.isGenerator && (decide (scope.names.lookup a = some .local) && scope.names.all fun y => !decide (y.2 = .cell) && ((!decide (y.2 = .local) || decide (y.1 = a)) && (!decide (y.2 = .free) || (decide (sc.names.lookup y.1 = some .cell) || decide (sc.names.lookup y.1 = some .free)))))))
theorem lamK_by {sc scope : Scope} {a : Str} (h : lamKB sc scope a = true) : LamK sc scope a := by
  unfold lamKB at h
  simp only [Bool.and_eq_true, Bool.or_eq_true, Bool.not_eq_true', decide_eq_true_eq, decide_eq_false_iff_not, List.all_eq_true] at h
  obtain ⟨h1, h2, h3, h4, h5⟩ := h
  refine ⟨h1, h2, h3, fun y hy => (h5 y hy).1, fun y hy e => ?_, h4, fun y hy e => ?_⟩
  · rcases (h5 y hy).2.1 with z | z
    · exact absurd e z
    · exact z
  · rcases (h5 y hy).2.2 with z | z
    · exact absurd e z
    · exact z
theorem LamK.has {X : Cx} {scope : Scope} {a : Str} (L : LamK X.env.scope scope a) (ok : X.Ok) : ∀ y ∈ scope.names, y.2 = .free → ∃ c, X.env.cells.lookup y.1 = some c := fun y hy e => by
  rcases L.free y hy e with k | k
  · exact ok.has _ (.inl k)
  · exact ok.has _ (.inr k)
/-- the context of the lambda's body -/
def lamCx1 (X : Cx) (a : Str) (A : Around) (outer : List Env) (s : Shared) (H : Hp) (scope : Scope) (f c' : Addr) : Cx where
  prog := X.prog
  w := X.w
  K := X.K
  mg := X.mg
  base := X.base
  A := A.deeper (LamX.lamEnv X scope s.heap.objs.size f c')
  N := a :: X.N
  s_0 := s
  H_0 := H
  env := LamX.lamEnv X scope s.heap.objs.size f c'
  outer := outer
  stack := LamX.lamEnv X scope s.heap.objs.size f c' :: outer
  ex := []
  fn := fun _ => false
  calm := true
  pn := []
  xe := fun _ _ => False
section
variable {X : Cx} {pins : List (Addr × Obj)} {σ : L2.St} {H : Hp} {s : Shared}
theorem lam_start1 {A : Around} {outer : List Env} {scope : Scope} {a : Str} {v : V} {u : Value} {f c' : Addr} {h₁ : Heap} {tk : Nat} (I : Inv X pins σ H s) (L : LamK X.env.scope scope a) (e0 : Env0 X.prog X.w X.K X.mg X.base A outer s H) (hd : A.handled = none) (ha : a ∉ X.N) (r : RelV v u)
    (hns : h₁.Ns s.heap.objs.size fun y => ([(a, u)] : List (Str × Value)).reverse.lookup y) (kp : ∀ b o, s.heap.get? b = some o → h₁.get? b = some o) :
    Inv (lamCx1 X a A outer s H scope f c') [] (some v :: σ) H { s with heap := h₁, toks := tk } := by
  have hfree := L.has I.ok
  have cm : ∀ {y c}, (cloFrom X.env.cells scope.names []).lookup y = some c → X.env.cells.lookup y = some c := fun {y c} e => by
    rcases cloFrom_mem (PySem.mem_of_lookup e) with hm | ⟨h1, h2⟩
    · cases hm
    · obtain ⟨c1, hc⟩ := hfree _ h1 rfl
      have hc : X.env.cells.lookup y = some c1 := hc
      have e2 : c = c1 := by
        rw [h2, hc] <;> rfl
      rw [e2]
      exact hc
  have look : ∀ {y}, scope.names.lookup y = some .free → ∃ c, (cloFrom X.env.cells scope.names []).lookup y = some c := fun {y} hl => by
    have hy : (y, NameKind.free) ∈ scope.names := PySem.mem_of_lookup hl
    exact mem_lookup (cloFrom_has (cells := X.env.cells) (acc := []) hy)
  have cellK : ∀ {c : Addr} {v : Option Value}, H c = none → s.heap.IsCell c v → h₁.IsCell c v := fun {c v} n ⟨o, ho, hd⟩ => ⟨_, kp _ _ ho, hd⟩
  have noA : ∀ b : Addr, b ∉ (lamCx1 X a A outer s H scope f c').ex := fun b z => absurd (show b ∈ ([] : List Addr) from z) (by simp)
  refine ⟨⟨e0.mod, L.kind, rfl, rfl, Nat.le_refl _, fun y z c e1 e2 => I.ok.inj y z c (cm e1) (cm e2), fun y hy => ?_, fun y c z _ => ?_, fun _ => hd, Around.frames_deeper e0.frames, .inr ⟨rfl, rfl⟩, fun b z => absurd z (noA b), e0.bs, e0.bsz, fun b _ _ => noA b,
      fun b z => absurd z (noA b), e0.funs, e0.frf⟩,
    rfl, e0.bare, Un.kept kp, ⟨_, hns, fun i y v' e1 e2 e3 => ?_⟩, fun y c e => ?_, e0.hok.fresh (Nat.le_refl _), fun y c e => ?_, fun q hq => absurd (show q ∈ ([] : List (Addr × Obj)) ++ [] from hq) (by simp), e0.hok.kept kp, ?_⟩
  · have hy : scope.names.lookup y = some .cell ∨ scope.names.lookup y = some .free := hy
    rcases hy with hy | hy
    · exact absurd rfl (L.nocell _ (PySem.mem_of_lookup hy))
    · exact look hy
  · have z : false = true := z
    cases z
  · have e3 : Vis scope y := e3
    cases i with
    | zero =>
      have e1 : some a = some y := e1
      have e2 : some (some v) = some (some v') := e2
      cases e1
      cases e2
      refine ⟨u, r, .inl ⟨L.par, ?_⟩⟩
      show List.lookup a [(a, u)] = some u
      simp
    | succ i =>
      have e1 : X.N[i]? = some y := e1
      have e2 : σ[i]? = some (some v') := e2
      rcases e3 with k | k | k
      · exact absurd (by rw [← L.own _ (PySem.mem_of_lookup k) rfl]; exact List.mem_of_getElem? e1) ha
      · exact absurd rfl (L.nocell _ (PySem.mem_of_lookup k))
      · obtain ⟨m, hn, hl⟩ := I.loc
        have hvis : Vis X.env.scope y := (L.free _ (PySem.mem_of_lookup k) rfl).elim (fun k => .inr (.inl k)) (fun k => .inr (.inr k))
        obtain ⟨w', r, q⟩ := hl i y v' e1 e2 hvis
        obtain ⟨c2, h2⟩ := look k
        refine ⟨w', r, .inr ⟨.inr k, c2, h2, ?_⟩⟩
        have c1 := cm h2
        rcases q with ⟨k', _⟩ | ⟨_, c3, e', z⟩
        · have k' : X.env.scope.names.lookup y = some .local := k'
          rcases L.free _ (PySem.mem_of_lookup k) rfl with k2 | k2 <;> rw [show X.env.scope.names.lookup y = _ from k2] at k' <;> cases k'
        · rw [c1] at e'
          cases e'
          exact cellK (I.freeC y _ c1) z
  · obtain ⟨w', z⟩ := I.cell y c (cm e)
    exact ⟨w', cellK (I.freeC y c (cm e)) z⟩
  · exact I.freeC y c (cm e)
  · show (some v :: σ).length = (a :: X.N).length
    rw [List.length_cons, List.length_cons, I.len]
/-- the lambda called within a built-in -/
theorem call_key {k : Nat} {params : Arguments} {body : Expr} {scope : Scope} {a : Str} {f c' : Addr} {v : V} {u : Value} {t : TE} {Q : VK} (I : Inv X pins σ H s) (L : LamK X.env.scope scope a) (ha : a ∉ X.N) (hf : H f = some (LamO X params body scope c' f)) (hc : H c' = some (LamX.CodeO c' (X.env.qual ++ "<lambda>")))
    (hbind : ∀ (q : Str) (cl : List (Str × Addr)) (pm cv ctv u : Value), bindArgs (PySem.W.kla_fn "<lambda>" q params body scope cl pm cv ctv) ⟨[u], []⟩ = pure [(a, u)])
    (hr : RG (k + 2) X.A) (hbody : ∀ (A : Around) (outer : List Env) (s : Shared) (H : Hp), RG k (A.deeper (LamX.lamEnv X scope s.heap.objs.size f c')) → PE (lamCx1 X a A outer s H scope f c') body t)
    (r : RelV v u) (ht : t (some v :: σ) H Q) :
    wpAny (model X.prog X.w) X.A.in1 (call (.ref f) [u]) (EP X pins σ Q) (fun _ _ => False) s := by
  obtain ⟨⟨pm, ctv, of1⟩, _, _⟩ := I.hok f _ hf
  obtain ⟨⟨oc, vs, tt, hoc, hdc, hvc⟩, _, _⟩ := I.hok c' _ hc
  have hr1 : RG (k + 1) X.A.in1 := ⟨hr.room.in1, hr.gd⟩
  have e0 : Env0 X.prog X.w X.K X.mg X.base X.A.in1 X.stack s H := ⟨I.ok.frames, I.ok.mod, I.bs, Nat.le_trans I.ok.bsz I.sz, I.stack, I.stkFree, I.hok, I.bare⟩
  have rc : codeAny (model X.prog X.w) X.A.in1 (.call (.ref f) ⟨[u], []⟩) (CR CX0 X.stack X.prog X.w H s Q E0) s := by
    refine PySem.W.kla_callFunE hr1.room.depth of1 rfl L.co L.gen rfl ⟨c', oc, vs, tt, rfl, hoc, hdc, hvc⟩ ?_
    rw [hbind]
    refine wpAny_pure (wpAny_newFunctionEnv (fun y hy => L.nocell y hy) (fun y hy => by rw [List.mem_singleton.mp hy]; exact L.par) (fun h₁ hns hsb => ⟨I.nolimit.fresh _ hsb, ?_⟩) L.kind)
    show codeAny _ _ (.expr body (LamX.lamEnv X scope s.heap.objs.size f c')) _ _
    have kp : ∀ b o, s.heap.get? b = some o → h₁.get? b = some o := fun b o e => hsb.extBut b o (Nat.ne_of_lt (Heap.lt_size e)) (Heap.get?_push_of_some _ e)
    have J := lam_start1 (f := f) (c' := c') (tk := s.toks + 1) I L e0 hr1.room.hd ha r hns kp
    have hr2 : RG k (X.A.in1.deeper (LamX.lamEnv X scope s.heap.objs.size f c')) := ⟨hr1.room.deeper _, hr1.gd⟩
    refine PySem.W.kla_codeExpr (wpAny_mono ((hbody X.A.in1 X.stack s H hr2).run [] _ _ H Q J ht) (fun v s' hq => ?_) fun e s' hq => (show False from hq).elim)
    obtain ⟨w', H', J', rv, q⟩ := hq
    exact ⟨w', H', J'.os, J'.bare, J'.base, J'.hok, rv, q⟩
  refine wpAny_call (codeAny_mono rc fun r s' hq => ?_)
  cases r with
  | error e => exact hq.elim
  | ok fl =>
    cases fl with
    | ret u => exact I.after hq
    | next => exact False.elim hq
    | brk => exact False.elim hq
    | cont => exact False.elim hq
end
end Cl

set_option maxHeartbeats 0
namespace Cl
open PySem PySem.Spec PyProof.Rows L2
section
variable {X : Cx} {pins : List (Addr × Obj)} {σ : L2.St} {H0 H : Hp} {s : Shared}
theorem Same.tupS {H H' : Hp} {t : Addr} {vs : List V} (s : Same H H') (h : SqT X.K H t vs) : SqT X.K H' t vs := seT s h
theorem max_loopI {t f S It : Addr} {vs : List V} {R : Result → Shared → Prop} (kf : Nat → Int) (hh : X.A.handled = none) (hS : SqT X.K H0 t vs) (hSI : S ≠ It) (htI : t ≠ It)
    (fS : ∀ H', H' S = none → FpOk X pins H' S) (fI : ∀ H', H' It = none → FpOk X pins H' It)
    (turn : ∀ (i : Nat) (x : V) (u : Value) (pins' : List (Addr × Obj)) (H : Hp) (s : Shared), vs[i]? = some x → RelV x u → Inv X pins' σ H s → Same H0 H →
      wpAny (model X.prog X.w) X.A.in1 (call (.ref f) [u]) (EP X pins' σ (fun y H' => y = .int (kf i) ∧ Same H0 H')) (fun _ _ => False) s)
    (hR : ∀ (i : Nat) (x : V) (u : Value) (H : Hp) (s : Shared), vs[i]? = some x → RelV x u → (∀ j, j < vs.length → kf i ≥ kf j ∧ (j < i → kf i > kf j)) → Inv X pins σ H s → Same H0 H → R (.ok (.ret u)) s) :
    ∀ (r j i : Nat) (H : Hp) (s : Shared) (xb : V) (ub : Value) (tb : Tok) (c : Nat), vs.length - (j + 1) = r → j + 1 ≤ vs.length → Inv X pins σ H s → Same H0 H → H S = none → H It = none →
      s.heap.get? S = some (seqObj "list" #[ub, .int (kf i) tb] c) → s.heap.IsTupleIter It t (j + 1) → vs[i]? = some xb → RelV xb ub → i ≤ j → (∀ j', j' ≤ j → kf i ≥ kf j' ∧ (j' < i → kf i > kf j')) →
      codeAny (model X.prog X.w) X.A (.builtin "max.loop" ⟨[.ref It, .ref f, .ref S], []⟩) R s := by
  have hname : (toString "max" ++ toString ".loop" : String) = "max.loop" := by decide
  intro r
  induction r with
  | zero =>
    intro j i H s xb ub tb c hr hj I sm nS nI gS hit hxb hub hij hbest
    have hin : j + 1 = vs.length := by omega
    obtain ⟨its, rv, tup, hz⟩ := I.tuple (seT sm hS)
    have W := Walks.tuple (prog := X.prog) (w := X.w) (A := X.A.in1) hh It t htI its.toArray
    have hsz : its.toArray.size = vs.length := by rw [List.size_toArray]; exact rv.length.symm
    refine codeAny_builtin PySem.F.entry_max_loop ?_
    rw [Around.under_plainId PySem.F.plain_max_loop _]
    show wpAny _ X.A.in1 (seqItems? (.ref S) >>= _) _ _ _
    refine wpAny_bind (wpAny_seqItems gS rfl ?_)
    show wpAny _ X.A.in1 (tryCatch (pyNext (.ref It)) _ >>= _) _ _ _
    refine wpAny_bind (wpAny_tryCatch (W.done _ _ _ ⟨by rw [hsz, ← hin]; exact hit, tup⟩ fun h' tk' hk' => ?_))
    obtain ⟨_, i1, i2, i3, i4, i5⟩ := fI H nI
    obtain ⟨_, s1, s2, s3, s4, s5⟩ := fS H nS
    have I1 := I.turned (h' := h') (t' := tk') (it := It) (fun b o hb e => hk' b o (by simpa using hb) e) nI i1 i3 i4 i5
    have gS' := hk' S _ (by simpa using hSI) gS
    show wpAny _ X.A.in1 (updateSeq S (fun _ => #[]) >>= _) _ _ _
    refine wpAny_bind ?_
    refine wpAny_updateSeq gS' rfl (wpAny_bind (wpAny_letGo (wpAny_pure ?_)))
    have I2 := I1.turned (h' := h'.update S (Obj.mapSeq fun _ => (#[] : Array Value))) (t' := tk') (it := S) (fun b o hb e => (Heap.get?_update_ne _ _ _ _ hb).trans e) nS s1 s3 s4 s5
    exact hR i xb ub H _ hxb hub (fun j' hj' => hbest j' (by omega)) I2 sm
  | succ r ih =>
    intro j i H s xb ub tb c hr hj I sm nS nI gS hit hxb hub hij hbest
    have hlt : j + 1 < vs.length := by omega
    obtain ⟨its, rv, tup, hz⟩ := I.tuple (seT sm hS)
    have W := Walks.tuple (prog := X.prog) (w := X.w) (A := X.A.in1) hh It t htI its.toArray
    have hsz : its.toArray.size = vs.length := by rw [List.size_toArray]; exact rv.length.symm
    refine codeAny_builtin PySem.F.entry_max_loop ?_
    rw [Around.under_plainId PySem.F.plain_max_loop _]
    show wpAny _ X.A.in1 (seqItems? (.ref S) >>= _) _ _ _
    refine wpAny_bind (wpAny_seqItems gS rfl ?_)
    show wpAny _ X.A.in1 (tryCatch (pyNext (.ref It)) _ >>= _) _ _ _
    refine wpAny_bind (wpAny_tryCatch (W.item (j + 1) _ _ _ (by rw [hsz]; exact hlt) ⟨hit, tup⟩ fun v h' tk' hP hst' hk' => ?_))
    have hv : its[j + 1]? = some v := by simpa using hP
    obtain ⟨x, hx⟩ : ∃ x, vs[j + 1]? = some x := ⟨_, List.getElem?_eq_getElem hlt⟩
    obtain ⟨v', ev, rel⟩ := rv.get hx
    obtain rfl : v' = v := Option.some.inj (ev.symm.trans hv)
    obtain ⟨_, i1, i2, i3, i4, i5⟩ := fI H nI
    obtain ⟨_, s1, s2, s3, s4, s5⟩ := fS H nS
    have I1 := I.turned (h' := h') (t' := tk') (it := It) (fun b o hb e => hk' b o (by simpa using hb) e) nI i1 i3 i4 i5
    have gS' := hk' S _ (by simpa using hSI) gS
    obtain ⟨oI', hoI', hoc, hod⟩ := id hst'.1
    have J : Inv X (pins ++ [(S, seqObj "list" #[ub, .int (kf i) tb] c), (It, oI')]) σ H { s with heap := h', toks := tk' } := I1.pins_of fun p hp => by
      rcases List.mem_append.mp hp with hp | hp
      · exact I1.pin p (List.mem_append_right _ hp)
      · rcases List.mem_cons.mp hp with rfl | hp
        · exact ⟨gS', nS, s1, s2, fun v z => nomatch z⟩
        · rw [List.mem_singleton.mp hp]
          exact ⟨hoI', nI, i1, i2, fun v z => by rw [show (It, oI').2.data = oI'.data from rfl, hod] at z; cases z⟩
    show wpAny _ X.A.in1 (tryCatch (holding [v'] (call (.ref f) [v'])) _ >>= _) _ _ _
    refine wpAny_bind (wpAny_tryCatch (wpAny_holding (wpAny_mono (turn (j + 1) x v' _ H _ hx rel J sm) (fun y s2 he => ?_) fun _ _ hF => hF.elim)))
    obtain ⟨yv, H2, J2, ry, rfl, sm2⟩ := he
    obtain ⟨t2, rfl⟩ := ry
    have pS := J2.pin (S, seqObj "list" #[ub, .int (kf i) tb] c) (List.mem_append_right _ (List.mem_append_right _ (.head _)))
    have pI := J2.pin (It, oI') (List.mem_append_right _ (List.mem_append_right _ (.tail _ (.head _))))
    have J3 : Inv X pins σ H2 s2 := J2.pins_of fun p hp => J2.pin p (List.mem_append_right _ (List.mem_append_left _ hp))
    have hit2 : s2.heap.IsTupleIter It t (j + 1 + 1) := ⟨oI', pI.1, hoc, hod⟩
    show wpAny _ X.A.in1 (tryCatch (holding [v', .int (kf (j + 1)) t2] (richCompare .Gt (.int (kf (j + 1)) t2) (.int (kf i) tb) >>= _)) _ >>= _) _ _ _
    refine wpAny_bind (wpAny_tryCatch (wpAny_holding (wpAny_bind (CmpOf.ints_gt (prog := X.prog) (w := X.w) (A := X.A.in1) (P := fun i v => ∃ t, v = .int (kf i) t) kf (fun i v h => h) (j + 1) i _ _ _ _ _ ⟨t2, rfl⟩ ⟨tb, rfl⟩ ?_))))
    refine wpAny_bind (wpAny_holding (wpAny_truthy_bool ?_))
    refine wpAny_bind (wpAny_letGo (wpAny_pure ?_))
    by_cases hb' : kf (j + 1) > kf i
    · obtain ⟨c2, hc2⟩ : ∃ c2, (s2.heap.update S (Obj.mapSeq fun _ => #[v', .int (kf (j + 1)) t2])).get? S = some (seqObj "list" #[v', .int (kf (j + 1)) t2] c2) := ⟨_, get?_update_seq pS.1 fun _ => #[v', .int (kf (j + 1)) t2]⟩
      simp only [hb', decide_true, if_true]
      refine wpAny_bind ?_
      refine wpAny_updateSeq pS.1 rfl (wpAny_bind (wpAny_letGo ?_))
      rw [hname]
      have I4 := J3.turned (h' := s2.heap.update S (Obj.mapSeq fun _ => #[v', .int (kf (j + 1)) t2])) (t' := s2.toks) (it := S) (fun b o hb e => (Heap.get?_update_ne _ _ _ _ hb).trans e) pS.2.1 s1 s3 s4 s5
      refine wpAny_pure ⟨plainId_quiet PySem.F.plain_max_loop _, ih (j + 1) (j + 1) H2 _ x v' t2 c2 (by omega) hlt I4 sm2 pS.2.1 pI.2.1 hc2 ⟨oI', (Heap.get?_update_ne _ _ _ _ hSI.symm).trans pI.1, hoc, hod⟩ hx rel (Nat.le_refl _) fun j' hj' => ?_⟩
      by_cases e : j' = j + 1
      · subst e
        exact ⟨by omega, fun _ => by omega⟩
      · have hb1 := hbest j' (by omega)
        have hb2 := hb1.1
        exact ⟨by omega, fun _ => by omega⟩
    · simp only [hb', decide_false, Bool.false_eq_true, if_false]
      refine wpAny_bind (wpAny_letGo ?_)
      rw [hname]
      refine wpAny_pure ⟨plainId_quiet PySem.F.plain_max_loop _, ih (j + 1) i H2 _ xb ub tb c (by omega) hlt J3 sm2 pS.2.1 pI.2.1 pS.1 hit2 hxb hub (by omega) fun j' hj' => ?_⟩
      by_cases e : j' = j + 1
      · subst e
        exact ⟨by omega, fun _ => by omega⟩
      · exact hbest j' (by omega)
/-- max(t, key=f), t a tuple -/
theorem max_keyI {t f : Addr} {vs : List V} {Q : Value → Shared → Prop} {E : Value → Shared → Prop} (kf : Nat → Int) (hh : X.A.handled = none) (I : Inv X pins σ H s) (hS : SqT X.K H t vs) (hne : 0 < vs.length)
    (turn : ∀ (i : Nat) (x : V) (u : Value) (pins' : List (Addr × Obj)) (H1 : Hp) (s : Shared), vs[i]? = some x → RelV x u → Inv X pins' σ H1 s → Same H H1 →
      wpAny (model X.prog X.w) X.A.in1 (call (.ref f) [u]) (EP X pins' σ (fun y H' => y = .int (kf i) ∧ Same H H')) (fun _ _ => False) s)
    (hQ : ∀ (i : Nat) (x : V) (u : Value) (H1 : Hp) (s : Shared), vs[i]? = some x → RelV x u → (∀ j, j < vs.length → kf i ≥ kf j ∧ (j < i → kf i > kf j)) → Inv X pins σ H1 s → Same H H1 → Q u s) :
    wpAny (model X.prog X.w) X.A (call (.builtin "max") [.ref t] [(Str.ofString "key", .ref f)]) Q E s := by
  have hname : (toString "max" ++ toString ".loop" : String) = "max.loop" := by decide
  obtain ⟨its, rv, tup, hz⟩ := I.tuple hS
  have htt : t < s.heap.objs.size := by obtain ⟨o, e, _⟩ := id tup; exact Heap.lt_size e
  refine kmk_tree PySem.F.kind_max PySem.F.plain_max PySem.F.entry_max (kmk_max_key _ _) ?_
  show wpAny _ X.A.in1 (Builtin.Builtins.bindParams "max" ["key", "default"] 0 ⟨[], [(Str.ofString "key", .ref f)]⟩ >>= _) _ _ s
  refine wpAny_bind (wpAny_of_eq (show Builtin.Builtins.bindParams "max" ["key", "default"] 0 ⟨[], [(Str.ofString "key", .ref f)]⟩ = pure [some (.ref f), none] from rfl) ?_)
  refine wpAny_bind (wpAny_pure ?_)
  refine wpAny_bind (wpAny_pyIter_tuple tup ?_)
  refine wpAny_bind (wpAny_newList ?_ (Nat.zero_le _))
  rw [hname]
  have hS1 : (s.heap.push { cls := .type "tuple_iterator", data := .fields #[.ref t, .int 0 0] }).objs.size = s.heap.objs.size + 1 := size_push' ..
  have htI : t ≠ s.heap.objs.size := Nat.ne_of_lt htt
  have hSI : (s.heap.push { cls := .type "tuple_iterator", data := .fields #[.ref t, .int 0 0] }).objs.size ≠ s.heap.objs.size := by rw [hS1]; exact Nat.ne_of_gt (Nat.lt_succ_self _)
  refine wpAny_pure ⟨plainId_quiet PySem.F.plain_max_loop _, ?_⟩
  have gI : ((s.heap.push { cls := .type "tuple_iterator", data := .fields #[.ref t, .int 0 0] }).push (seqObj "list" #[] 0)).get? s.heap.objs.size = some { cls := .type "tuple_iterator", data := .fields #[.ref t, .int 0 0] } :=
    Heap.get?_push_of_some _ (Heap.get?_push_size _ rfl)
  have gS : ((s.heap.push { cls := .type "tuple_iterator", data := .fields #[.ref t, .int 0 0] }).push (seqObj "list" #[] 0)).get? (s.heap.push { cls := .type "tuple_iterator", data := .fields #[.ref t, .int 0 0] }).objs.size = some (seqObj "list" #[] 0) := Heap.get?_push_size _ rfl
  have fI : ∀ H', H' s.heap.objs.size = none → FpOk X pins H' s.heap.objs.size := fun H' n => I.fpOk (Nat.le_refl _) n
  have fS : ∀ H', H' (s.heap.push { cls := .type "tuple_iterator", data := .fields #[.ref t, .int 0 0] }).objs.size = none → FpOk X pins H' (s.heap.push { cls := .type "tuple_iterator", data := .fields #[.ref t, .int 0 0] }).objs.size := fun H' n => I.fpOk (by rw [hS1]; exact Nat.le_succ _) n
  have nI : H s.heap.objs.size = none := I.hok.fresh (Nat.le_refl _)
  have nS : H (s.heap.push { cls := .type "tuple_iterator", data := .fields #[.ref t, .int 0 0] }).objs.size = none := I.hok.fresh (by rw [hS1]; exact Nat.le_succ _)
  have I0 : Inv X pins σ H { s with heap := (s.heap.push { cls := .type "tuple_iterator", data := .fields #[.ref t, .int 0 0] }).push (seqObj "list" #[] 0) } := I.kept (t' := s.toks) fun b o e => Heap.get?_push_of_some _ (Heap.get?_push_of_some _ e)
  have tup0 : ((s.heap.push { cls := .type "tuple_iterator", data := .fields #[.ref t, .int 0 0] }).push (seqObj "list" #[] 0)).IsTuple t its.toArray := by
    obtain ⟨o, e, r⟩ := id tup
    exact ⟨o, Heap.get?_push_of_some _ (Heap.get?_push_of_some _ e), r⟩
  generalize (s.heap.push { cls := .type "tuple_iterator", data := .fields #[.ref t, .int 0 0] }).objs.size = S at *
  generalize (s.heap.push { cls := .type "tuple_iterator", data := .fields #[.ref t, .int 0 0] }).push (seqObj "list" #[] 0) = h0 at *
  generalize s.heap.objs.size = It at *
  have W := Walks.tuple (prog := X.prog) (w := X.w) (A := X.A.in1) hh It t htI its.toArray
  have hsz : its.toArray.size = vs.length := by rw [List.size_toArray]; exact rv.length.symm
  refine codeAny_builtin PySem.F.entry_max_loop ?_
  rw [Around.under_plainId PySem.F.plain_max_loop _]
  show wpAny _ X.A.in1 (seqItems? (.ref _) >>= _) _ _ _
  refine wpAny_bind (wpAny_seqItems gS rfl ?_)
  show wpAny _ X.A.in1 (tryCatch (pyNext (.ref It)) _ >>= _) _ _ _
  refine wpAny_bind (wpAny_tryCatch (W.item 0 _ _ _ (by rw [hsz]; exact hne) ⟨⟨_, gI, rfl, rfl⟩, tup0⟩ fun v h' tk' hP hst' hk' => ?_))
  have hv : its[0]? = some v := by simpa using hP
  obtain ⟨x, hx⟩ : ∃ x, vs[0]? = some x := ⟨_, List.getElem?_eq_getElem hne⟩
  obtain ⟨v', ev, rel⟩ := rv.get hx
  obtain rfl : v' = v := Option.some.inj (ev.symm.trans hv)
  obtain ⟨_, i1, i2, i3, i4, i5⟩ := fI H nI
  obtain ⟨_, s1, s2, s3, s4, s5⟩ := fS H nS
  have I1 := I0.turned (h' := h') (t' := tk') (it := It) (fun b o hb e => hk' b o (by simpa using hb) e) nI i1 i3 i4 i5
  have gS' := hk' S _ (by simpa using hSI) gS
  obtain ⟨oI', hoI', hoc, hod⟩ := id hst'.1
  have J : Inv X (pins ++ [(S, seqObj "list" #[] 0), (It, oI')]) σ H { s with heap := h', toks := tk' } := I1.pins_of fun p hp => by
    rcases List.mem_append.mp hp with hp | hp
    · exact I1.pin p (List.mem_append_right _ hp)
    · rcases List.mem_cons.mp hp with rfl | hp
      · exact ⟨gS', nS, s1, s2, fun v z => nomatch z⟩
      · rw [List.mem_singleton.mp hp]
        exact ⟨hoI', nI, i1, i2, fun v z => by rw [show (It, oI').2.data = oI'.data from rfl, hod] at z; cases z⟩
  show wpAny _ X.A.in1 (tryCatch (holding [v'] (call (.ref f) [v'])) _ >>= _) _ _ _
  refine wpAny_bind (wpAny_tryCatch (wpAny_holding (wpAny_mono (turn 0 x v' _ H _ hx rel J (.refl H)) (fun y s2 he => ?_) fun _ _ hF => hF.elim)))
  obtain ⟨yv, H2, J2, ry, rfl, sm2⟩ := he
  obtain ⟨t2, rfl⟩ := ry
  have pS := J2.pin (S, seqObj "list" #[] 0) (List.mem_append_right _ (List.mem_append_right _ (.head _)))
  have pI := J2.pin (It, oI') (List.mem_append_right _ (List.mem_append_right _ (.tail _ (.head _))))
  have J3 : Inv X pins σ H2 s2 := J2.pins_of fun p hp => J2.pin p (List.mem_append_right _ (List.mem_append_left _ hp))
  obtain ⟨c2, hc2⟩ : ∃ c2, (s2.heap.update S (Obj.mapSeq fun _ => #[v', .int (kf 0) t2])).get? S = some (seqObj "list" #[v', .int (kf 0) t2] c2) := ⟨_, get?_update_seq pS.1 fun _ => #[v', .int (kf 0) t2]⟩
  show wpAny _ X.A.in1 (updateSeq S (fun _ => #[v', .int (kf 0) t2]) >>= _) _ _ _
  refine wpAny_bind ?_
  refine wpAny_updateSeq pS.1 rfl ?_
  rw [hname]
  have I4 := J3.turned (h' := s2.heap.update S (Obj.mapSeq fun _ => #[v', .int (kf 0) t2])) (t' := s2.toks) (it := S) (fun b o hb e => (Heap.get?_update_ne _ _ _ _ hb).trans e) pS.2.1 s1 s3 s4 s5
  refine wpAny_pure ⟨plainId_quiet PySem.F.plain_max_loop _, max_loopI kf hh hS hSI htI fS fI turn (fun i x u H1 s' h1 h2 h3 h4 h5 => hQ i x u H1 s' h1 h2 h3 h4 h5) _ 0 0 H2 _ x v' t2 c2 rfl hne I4 sm2 pS.2.1 pI.2.1 hc2 ⟨oI', (Heap.get?_update_ne _ _ _ _ hSI.symm).trans pI.1, hoc, hod⟩ hx rel (Nat.le_refl _) fun j' hj' => ?_⟩
  have e : j' = 0 := by omega
  subst e
  exact ⟨by omega, fun h => absurd h (Nat.lt_irrefl _)⟩
end
end Cl

set_option maxHeartbeats 0
namespace Cl
open PySem PySem.Spec PyProof.Rows L2
/-- what stands but for the table at P -/
def hp (P : Addr) (H : Hp) : Hp := fun b => if b = P then none else H b
theorem hp_at {P b : Addr} {H : Hp} {o : HO} (h : hp P H b = some o) : b ≠ P ∧ H b = some o := by
  unfold hp at h
  split at h
  · cases h
  · exact ⟨by assumption, h⟩
theorem hp_of {P b : Addr} {H : Hp} {o : HO} (n : b ≠ P) (h : H b = some o) : hp P H b = some o := by
  unfold hp
  rw [if_neg n]
  exact h
theorem SameX.to {P : Addr} {H H' : Hp} (s : SameX P H H') : Same (hp P H) H' := fun b o e => s b o (hp_at e).1 (hp_at e).2
theorem SameX.refl {P : Addr} (H : Hp) : SameX P H H := fun _ _ _ e => .of e
section
variable {K : PySem.W.Frag} {H H' : Hp} {P : Addr} {q : Str}
theorem dnT {a : Addr} {xs : List V} (t : LT H P q) (h : SqT K H a xs) : SqT K (hp P H) a xs := by
  obtain ⟨cs, e, _⟩ := t
  have ne : ∀ u, H a = some u → (∀ φ, u ≠ .ext φ) → a ≠ P := fun u z n y => by
    rw [y, e] at z
    exact n _ (Option.some.inj z).symm
  rcases h with (h | ⟨o, h⟩) | h
  · exact .inl (.inl (hp_of (ne _ h fun φ z => nomatch z) h))
  · exact .inl (.inr ⟨o, hp_of (ne _ h fun φ z => nomatch z) h⟩)
  · exact .inr h
theorem dn2 {v : V} {p : Int × Int} (t : LT H P q) (h : At2 K H v p) : At2 K (hp P H) v p := by
  obtain ⟨a, rfl, h⟩ := h
  exact ⟨a, rfl, dnT t h⟩
theorem dnL {v : V} {l : Ln} (t : LT H P q) (h : AtL K H v l) : AtL K (hp P H) v l := by
  obtain ⟨a, u, w, rfl, h1, h2, h3⟩ := h
  exact ⟨a, u, w, rfl, dnT t h1, dn2 t h2, dn2 t h3⟩
theorem AtL.sameX {v : V} {l : Ln} (h : AtL K H v l) (t : LT H P q) (s : SameX P H H') : AtL K H' v l := (dnL t h).same s.to
theorem seX {a : Addr} {xs : List V} (t : LT H P q) (s : SameX P H H') (h : SqT K H a xs) : SqT K H' a xs := seT s.to (dnT t h)
end
def tLamK (X : Cx) (P : Addr) (params : Arguments) (body : Expr) (scope : Scope) : TE := fun _ H Q => LT H P (X.env.qual ++ "<lambda>") ∧ ∀ f c' H1, SameX P H H1 → LT H1 P (X.env.qual ++ "<lambda>") →
  H1 f = some (LamO X params body scope c' f) → H1 c' = some (LamX.CodeO c' (X.env.qual ++ "<lambda>")) → Q (.ref f) H1
/-- what max by key asks behind its argument v -/
def keyQ (X : Cx) (P : Addr) (t : TE) (σ : L2.St) (Q : VK) (v : V) (H1 : Hp) : Prop := ∃ (tt : Addr) (vs : List V) (kf : Nat → Int), v = .ref tt ∧ SqT X.K H1 tt vs ∧ 0 < vs.length ∧ LT H1 P (X.env.qual ++ "<lambda>") ∧
  (∀ i x H2, vs[i]? = some x → SameX P H1 H2 → LT H2 P (X.env.qual ++ "<lambda>") → t (some x :: σ) H2 (fun y H3 => y = .int (kf i) ∧ Same H2 H3)) ∧
  ∀ i x H2, vs[i]? = some x → (∀ j, j < vs.length → kf i ≥ kf j ∧ (j < i → kf i > kf j)) → SameX P H1 H2 → LT H2 P (X.env.qual ++ "<lambda>") → Q x H2
def keyQs (X : Cx) (P : Addr) (t : TE) (σ : L2.St) (Q : VK) : List V → Hp → Prop
  | [v], H1 => keyQ X P t σ Q v H1
  | _, _ => False
def tMaxKey (X : Cx) (P : Addr) (t te : TE) : TE := fun σ H Q => te σ H (keyQ X P t σ Q)
section
variable {X : Cx}
theorem pe_lamK {c P : Addr} {params : Arguments} {body : Expr} {scope : Scope} {a : Str} {pos : Pos} (TB : GxR.TabB X.base X.mg c P) (hcode : X.env.code = .ref c) (L : LamK X.env.scope scope a) (hdef : defaultsOf params X.env = ([], [])) :
    PE X (.Lambda params body scope pos) (tLamK X P params body scope) :=
  ⟨fun pins s σ H Q I h => lam_make3 I TB hcode h.1 hdef (L.has I.ok) fun f c' H1 s' I1 sx lt hf hc => ⟨.ref f, H1, I1, rfl, h.2 f c' H1 sx lt hf hc⟩⟩
theorem pe_maxKey {k : Nat} {c P : Addr} {e : Expr} {params : Arguments} {body : Expr} {scope : Scope} {a : Str} {p pos lp kp : Pos} {t te : TE} (hr : RG (k + 2) X.A) (hg : Gl X "max") (hm : X.mg "max" = none) (TB : GxR.TabB X.base X.mg c P) (hcode : X.env.code = .ref c)
    (L : LamK X.env.scope scope a) (ha : a ∉ X.N) (hdef : defaultsOf params X.env = ([], []))
    (hbind : ∀ (q : Str) (cl : List (Str × Addr)) (pm cv ctv u : Value), bindArgs (PySem.W.kla_fn "<lambda>" q params body scope cl pm cv ctv) ⟨[u], []⟩ = pure [(a, u)])
    (he : PE X e te) (hbody : ∀ (A : Around) (outer : List Env) (s : Shared) (H : Hp) (f c' : Addr), RG k (A.deeper (LamX.lamEnv X scope s.heap.objs.size f c')) → PE (lamCx1 X a A outer s H scope f c') body t)
    (hs1 : starEach [e] X.env = (false, eval e X.env) :: starEach [] X.env := by rfl) :
    PE X (.Call (.Name "max" p) [e] [⟨some "key", .Lambda params body scope lp, kp⟩] pos) (tMaxKey X P t te) := by
  refine ⟨fun pins s σ H Q I h => ?_⟩
  refine wpAny_Call_Name_kw (ld_blt I hg hm PyProof.Rows.boot_max ?_ (by decide) (by decide))
  have hargs : PA X [e] _ := pa_cons he pa_nil (hs := hs1)
  have hk : PK X [⟨some "key", .Lambda params body scope lp, kp⟩] _ := pk_cons (pe_lamK (P := P) TB hcode L hdef) pk_nil
  refine PyProof.Rows.callWith_kw (thn (hargs.run pos pins s σ H (keyQs X P t σ Q) I h) fun us s1 ⟨vs0, H1, I1, r1, q1⟩ => ?_) (by rw [hs1]; rfl) (by rw [hs1]; rfl) (by rfl) (by rfl)
  obtain ⟨v, rfl⟩ : ∃ v, vs0 = [v] := by
    match vs0, q1 with
    | [v], _ => exact ⟨v, rfl⟩
    | [], q => exact False.elim q
    | _ :: _ :: _, q => exact False.elim q
  obtain ⟨tt, vs, kf, rfl, hS, hne, lt1, ht, hq⟩ := q1
  obtain ⟨u, rfl, ru⟩ := vals1 r1
  cases ru
  refine thn (hk.run pos pins s1 σ H1 (fun ws H2 => ∃ f c', ws = [.ref f] ∧ SameX P H1 H2 ∧ LT H2 P (X.env.qual ++ "<lambda>") ∧ H2 f = some (LamO X params body scope c' f) ∧ H2 c' = some (LamX.CodeO c' (X.env.qual ++ "<lambda>"))) I1 ?_) fun ws s2 ⟨zs, H2, I2, r2, q2⟩ => ?_
  · exact ⟨lt1, fun f c' H2 sx lt hf hc => ⟨f, c', rfl, sx, lt, hf, hc⟩⟩
  obtain ⟨f, c', rfl, sx, lt2, hf, hc⟩ := q2
  obtain ⟨u, rfl, ru⟩ := vals1 r2
  cases ru
  have hS2 := seX lt1 sx hS
  show wpAny _ _ (call (.builtin "max") [.ref tt] [(Str.ofString "key", .ref f)]) _ _ s2
  refine max_keyI kf hr.room.hd I2 hS2 hne (fun i x u pins' H3 s3 hx rel I3 sm => ?_) fun i x u H3 s3 hx rel best I3 sm => ?_
  · refine wpAny_mono (call_key (k := k) I3 L ha (sm _ _ hf) (sm _ _ hc) hbind hr (fun A outer s H hr' => hbody A outer s H f c' hr') rel (ht i x H3 hx (sx.trans sm.x) (sm.lt lt2))) (fun y s4 hy => ?_) fun _ _ z => z
    obtain ⟨yv, H4, I4, ry, e, sm4⟩ := hy
    exact ⟨yv, H4, I4, ry, e, sm.trans sm4⟩
  · exact ⟨x, H3, I3, rel, hq i x H3 hx best (sx.trans sm.x) (sm.lt lt2)⟩
end
end Cl

set_option maxHeartbeats 0
namespace Cl
open PySem PySem.Spec PyProof.Rows L2
/-! ### a generator expression over one name, its element asked as it comes: told by words on states -/
theorem over_comp {A : Around} {e : Expr} {gs : List Comprehension} {sc : Scope} {p : Pos} {v o : Value} {env : Env} : A.over (.compLoop (.GeneratorExp e gs sc p) 0 v o env) [] = A.deeper env := by
  first
    | rfl
    | (obtain ⟨hd, d, fr, gs, u⟩ := A; simp [Around.over, Around.deeper, marksOver, frameCount, unitsOf, envsOf, guardsOf, pushEnvs, pushGuards, Code.envs, Code.env?, Code.isFrame, Code.guards, Code.isGuard, Code.weight, Code.frames, Code.isCreation, Code.isCaller, Code.cUnits])
theorem over_start {A : Around} {e : Expr} {gs : List Comprehension} {sc : Scope} {p : Pos} {v o : Value} {env : Env} : A.over (.compStart (.GeneratorExp e gs sc p) 0 v o env) [] = A.deeper env := by
  first
    | rfl
    | (obtain ⟨hd, d, fr, gs, u⟩ := A; simp [Around.over, Around.deeper, marksOver, frameCount, unitsOf, envsOf, guardsOf, pushEnvs, pushGuards, Code.envs, Code.env?, Code.isFrame, Code.guards, Code.isGuard, Code.weight, Code.frames, Code.isCreation, Code.isCaller, Code.cUnits])
structure GenN (prog : Program) (w : World) (A : Around) (cenv : Env) (I : Addr) (x : Str) (px : Pos) (elt : Expr) (n₀ : Nat) (bs : Nat → Bool) (ST : Nat → Shared → Prop) (M1 : Nat → Value → Shared → Prop) (M2 : Nat → Shared → Prop) (FIN : Shared → Prop) : Prop where
  item : ∀ (i : Nat) (s : Shared) (Q : Option Value → Shared → Prop) (E : Value → Shared → Prop), i < n₀ → ST i s → (∀ v s', M1 i v s' → Q (some v) s') → wpAny (model prog w) (A.deeper cenv) (pyNext (.ref I)) Q E s
  asg : ∀ (i : Nat) (v : Value) (s : Shared) (Q : Unit → Shared → Prop) (E : Value → Shared → Prop), M1 i v s → (∀ s', M2 i s' → Q () s') → wpAny (model prog w) (A.deeper cenv) (assign (.Name x px) cenv v) Q E s
  el : ∀ (i : Nat) (s : Shared) (Q : Value → Shared → Prop) (E : Value → Shared → Prop), M2 i s → (∀ s', ST (i + 1) s' → Q (.bool (bs i)) s') → wpAny (model prog w) (A.deeper cenv) (eval elt cenv) Q E s
  done : ∀ (s : Shared) (Q : Option Value → Shared → Prop) (E : Value → Shared → Prop), ST n₀ s → (∀ s', FIN s' → Q none s') → wpAny (model prog w) (A.deeper cenv) (pyNext (.ref I)) Q E s
  self : ∀ (s : Shared) (Q : Value → Shared → Prop) (E : Value → Shared → Prop), ST 0 s → Q (.ref I) s → wpAny (model prog w) (A.deeper cenv) (pyIter (.ref I)) Q E s
def protoN (n₀ : Nat) (bs : Nat → Bool) (ST : Nat → Shared → Prop) : Protocol := fun m _ v s kap =>
  ∃ i, i + m + 1 = n₀ ∧ v = .bool (bs i) ∧ ST (i + 1) s ∧ ∀ s'' : Shared, ST (i + 1) s'' → kap (.send .none) s''
abbrev endN (FIN : Shared → Prop) : GenEnd := fun n _ r s₁ => r = .ok .next ∧ (n = 0 ∧ FIN s₁)
section
variable {prog : Program} {w : World} {A : Around} {cenv : Env} {I : Addr} {x : Str} {px : Pos} {elt iter : Expr} {n₀ : Nat} {bs : Nat → Bool} {ST : Nat → Shared → Prop} {M1 : Nat → Value → Shared → Prop} {M2 : Nat → Shared → Prop} {FIN : Shared → Prop} {scope : Scope} {pos : Pos}
theorem seg_loopN (hco : cenv.scope.isCoroutine = false) (G : GenN prog w A cenv I x px elt n₀ bs ST M1 M2 FIN) :
    ∀ (k i : Nat) (s₀ s : Shared), n₀ - i = k → i ≤ n₀ → ST i s →
      Seg (model prog w) A (endN FIN) (protoN n₀ bs ST) k s₀
        (.compLoop (.GeneratorExp elt [⟨.Name x px, iter, [], 0⟩] scope pos) 0 (.ref I) .none cenv)
        ((model prog w).den (.compLoop (.GeneratorExp elt [⟨.Name x px, iter, [], 0⟩] scope pos) 0 (.ref I) .none cenv)) [] s := by
  intro k
  induction k with
  | zero =>
    intro i s₀ s hk hi hst
    have hin : i = n₀ := by omega
    subst hin
    show Seg _ A _ _ _ s₀ _ ((compTurn (.GeneratorExp elt [⟨.Name x px, iter, [], 0⟩] scope pos) 0 (.ref I) .none cenv).onRaise (leaving cenv)) [] s
    rw [compTurn_gen, Sem.onRaise_eq_wrap]
    refine seg_bind_wrap (wpAny_standAt ?_)
    refine seg_bind_wrap ?_
    rw [over_comp]
    refine G.done s _ _ hst fun s' hf => ?_
    exact seg_end (.ok .next) ⟨rfl, rfl, hf⟩
  | succ k ih =>
    intro i s₀ s hk hi hst
    have hlt : i < n₀ := by omega
    show Seg _ A _ _ _ s₀ _ ((compTurn (.GeneratorExp elt [⟨.Name x px, iter, [], 0⟩] scope pos) 0 (.ref I) .none cenv).onRaise (leaving cenv)) [] s
    rw [compTurn_gen, Sem.onRaise_eq_wrap]
    refine seg_bind_wrap (wpAny_standAt ?_)
    refine seg_bind_wrap ?_
    rw [over_comp]
    refine G.item i s _ _ hlt hst fun v s1 h1 => ?_
    refine seg_bind_wrap (wpAny_of_eq (rfl : letOwnedTupleGo (.Name x px) (.ref I) v = pure ()) ?_)
    refine seg_bind_wrap ?_
    rw [over_comp]
    refine G.asg i v s1 _ _ h1 fun s2 h2 => ?_
    refine seg_bind_wrap ?_
    simp only [List.forIn_nil]
    refine wpAny_pure ?_
    simp only [if_true]
    have hy : ∀ v, yieldOut cenv v = yieldValue v := fun v => by simp only [yieldOut, hco, Bool.false_eq_true, if_false]
    simp only [hy]
    rw [Sem.bind_eq_wrap', Sem.bind_eq_wrap', Sem.wrap_wrap, Sem.wrap_wrap]
    refine seg_wrap ?_
    rw [over_comp]
    refine G.el i s2 _ _ h2 fun s3 h3 => ?_
    refine seg_at (seg_yield rfl rfl rfl ⟨i, by omega, rfl, h3, fun s'' hal => ?_⟩)
    exact seg_again rfl (ih (i + 1) s'' s'' (by omega) hlt hal)
theorem seg_startN (hco : cenv.scope.isCoroutine = false) (G : GenN prog w A cenv I x px elt n₀ bs ST M1 M2 FIN) (s₀ s : Shared) (hst : ST 0 s) :
    Seg (model prog w) A (endN FIN) (protoN n₀ bs ST) n₀ s₀
      (.compStart (.GeneratorExp elt [⟨.Name x px, iter, [], 0⟩] scope pos) 0 (.ref I) .none cenv)
      ((model prog w).den (.compStart (.GeneratorExp elt [⟨.Name x px, iter, [], 0⟩] scope pos) 0 (.ref I) .none cenv)) [] s := by
  have loop := fun s₀ => seg_loopN (iter := iter) (scope := scope) (pos := pos) hco G n₀ 0 s₀ s (Nat.sub_zero _) (Nat.zero_le _) hst
  show Seg _ A _ _ _ s₀ _ ((compStart (.GeneratorExp elt [⟨.Name x px, iter, [], 0⟩] scope pos) 0 (.ref I) .none cenv).onRaise (leaving cenv)) [] s
  unfold compStart
  rw [Sem.onRaise_eq_wrap]
  show Seg _ A _ _ _ s₀ _ ((ask >>= _).wrap _ _ _ _) [] s
  refine seg_bind_wrap (wpAny_askSetting ?_)
  split
  · exact seg_again rfl (loop s₀)
  · refine seg_bind_wrap (wpAny_rule ?_)
    first
      | (refine seg_bind_wrap (wpAny_standAt ?_)
         refine seg_bind_wrap ?_
         rw [over_start]
         exact G.self s _ _ hst (seg_again rfl (loop s₀)))
      | (show Seg _ A _ _ _ s₀ _ ((standAt iter.pos >>= _).wrap _ _ _ _) [] s
         refine seg_bind_wrap (wpAny_standAt ?_)
         refine seg_bind_wrap ?_
         rw [over_start]
         exact G.self s _ _ hst (seg_again rfl (loop s₀)))
/-- the generator at a stands ahead of its turn i -/
structure AtN (prog : Program) (w : World) (A : Around) (a : Addr) (g n₀ : Nat) (bs : Nat → Bool) (ST : Nat → Shared → Prop) (FIN : Shared → Prop) (i : Nat) (s : Shared) : Prop where
  st : ST i s
  go : ∃ gs, s.gens[g]? = some gs ∧ ∀ s'', ST i s'' → gs.Goes (model prog w) A (endN FIN) (protoN n₀ bs ST) (n₀ - i) (.send .none) s''
/-- what a state word tells of the generator's object -/
structure SideN (a : Addr) (g : Nat) (ST : Nat → Shared → Prop) : Prop where
  gen : ∀ i s, ST i s → s.heap.IsGen a g
  lim : ∀ i s, ST i s → s.heap.NoLimit
  sz : ∀ i s, ST i s → g < s.gens.size
  set : ∀ i s y, y.bare = true → ST i s → ST i (s.setGen g y)
variable {a : Addr} {g : Nat}
theorem nextN_item {i : Nat} {s : Shared} {Q : Option Value → Shared → Prop} {E : Value → Shared → Prop} (hh : A.handled = none) (hroom : A.depth < recursionLimit) (S : SideN a g ST) (hi : i < n₀) (h : AtN prog w A.in1 a g n₀ bs ST FIN i s)
    (hQ : ∀ s', AtN prog w A.in1 a g n₀ bs ST FIN (i + 1) s' → Q (some (.bool (bs i))) s') : wpAny (model prog w) A (pyNext (.ref a)) Q E s := by
  obtain ⟨gs, hgs, hgo⟩ := h.go
  obtain ⟨m, hm⟩ : ∃ m, n₀ - i = m + 1 := ⟨n₀ - i - 1, by omega⟩
  rw [hm] at hgo
  refine wpAny_pyNext_genexpQ (P := fun n _ s₁ => n = 0 ∧ FIN s₁) hh (S.lim _ _ h.st) hroom (S.gen _ _ h.st) hgs (hgo _ (S.set _ _ _ rfl h.st)) (fun v s₁ gs' hb hv => ?_) fun s₁ hp h' hk => absurd hp.1 (Nat.succ_ne_zero m)
  obtain ⟨i', e, rfl, st1, hkap⟩ := hv
  have ei : i' = i := by omega
  subst ei
  refine hQ _ ⟨S.set _ _ _ hb st1, gs', setGen_at (S.sz _ _ st1), fun s'' hal => ?_⟩
  have e2 : n₀ - (i' + 1) = m := by omega
  rw [e2]
  exact hkap s'' hal
theorem nextN_done {s : Shared} {Q : Option Value → Shared → Prop} {E : Value → Shared → Prop} (hh : A.handled = none) (hroom : A.depth < recursionLimit) (S : SideN a g ST) (h : AtN prog w A.in1 a g n₀ bs ST FIN n₀ s)
    (hQ : ∀ s' h', FIN s' → (∀ b o, s'.heap.get? b = some o → h'.get? b = some o) → Q none { s'.setGen g .finished with heap := h' }) : wpAny (model prog w) A (pyNext (.ref a)) Q E s := by
  obtain ⟨gs, hgs, hgo⟩ := h.go
  rw [Nat.sub_self] at hgo
  refine wpAny_pyNext_genexpQ (P := fun n _ s₁ => n = 0 ∧ FIN s₁) hh (S.lim _ _ h.st) hroom (S.gen _ _ h.st) hgs (hgo _ (S.set _ _ _ rfl h.st)) (fun v s₁ gs' hb hv => ?_) fun s₁ hp h' hk => ?_
  · obtain ⟨i', e, rfl, st1, hkap⟩ := hv
    exact False.elim (hkap s₁ st1)
  · exact hQ s₁ h' hp.2 hk
end
end Cl

set_option maxHeartbeats 0
namespace Cl
open PySem PySem.Spec PyProof.Rows L2
open GxR (TabB TabG Tabbed GenS inv_tab sh_eta)
/-- a generator expression's scope: its one name, the hidden one, captured names, globals -/
structure GenK (sc scope : Scope) (x : Str) : Prop where
  kind : scope.kind = .function
  co : scope.isCoroutine = false
  nocell : ∀ y ∈ scope.names, y.2 ≠ .cell
  dot : scope.names.lookup (".0" : Str) = some .local
  own : ∀ y ∈ scope.names, y.2 = .local → y.1 = x ∨ y.1 = ".0"
  par : scope.names.lookup x = some .local
  free : ∀ y ∈ scope.names, y.2 = .free → sc.names.lookup y.1 = some .cell ∨ sc.names.lookup y.1 = some .free
def genKB (sc scope : Scope) (x : Str) : Bool :=
  decide (scope.kind = .function) && (!scope.isCoroutine && (decide (scope.names.lookup (".0" : Str) = some .local) && (decide (scope.names.lookup x = some .local) && scope.names.all fun y => !decide (y.2 = .cell) && ((!decide (y.2 = .local) || (decide (y.1 = x) || decide (y.1 = ".0"))) && (!decide (y.2 = .free) || (decide (sc.names.lookup y.1 = some .cell) || decide (sc.names.lookup y.1 = some .free)))))))
theorem genK_by {sc scope : Scope} {x : Str} (h : genKB sc scope x = true) : GenK sc scope x := by
  unfold genKB at h
  simp only [Bool.and_eq_true, Bool.or_eq_true, Bool.not_eq_true', decide_eq_true_eq, decide_eq_false_iff_not, List.all_eq_true] at h
  obtain ⟨h1, h2, h3, h4, h5⟩ := h
  refine ⟨h1, h2, fun y hy => (h5 y hy).1, h3, fun y hy e => ?_, h4, fun y hy e => ?_⟩
  · rcases (h5 y hy).2.1 with z | z
    · exact absurd e z
    · exact z
  · rcases (h5 y hy).2.2 with z | z
    · exact absurd e z
    · exact z
theorem GenK.has {X : Cx} {scope : Scope} {x : Str} (L : GenK X.env.scope scope x) (ok : X.Ok) : ∀ y ∈ scope.names, y.2 = .free → ∃ c, X.env.cells.lookup y.1 = some c := fun y hy e => by
  rcases L.free y hy e with k | k
  · exact ok.has _ (.inl k)
  · exact ok.has _ (.inr k)
/-- the context of the generator expression's element -/
def genCx (X : Cx) (x : Str) (A : Around) (s1 : Shared) (H1 : Hp) (env : Env) : Cx where
  prog := X.prog
  w := X.w
  K := X.K
  mg := X.mg
  base := X.base
  A := A.deeper env
  N := x :: X.N
  s_0 := s1
  H_0 := H1
  env := env
  outer := X.stack
  stack := env :: X.stack
  ex := []
  fn := fun _ => false
  calm := true
  pn := []
  xe := fun _ _ => False
abbrev gEnv (X : Cx) (scope : Scope) (C : Addr) (code : Value) : Env := genEnv scope (cloFrom X.env.cells scope.names []) C code builtinsNs X.env
section
variable {X : Cx} {pins : List (Addr × Obj)} {σ : L2.St}
theorem gen_start {x : Str} {A : Around} {s1 s4 : Shared} {H1 H4 : Hp} {scope : Scope} {C P : Addr} {code : Value} {pn : List (Addr × Obj)} {m : Str → Option Value} (I : Inv X pins σ H1 s1) (L : GenK X.env.scope scope x) (hf : A.frames = some X.stack) (hd : A.handled = none) (hx : x ∉ X.N) (hdot : (".0" : Str) ∉ X.N)
    (hC : s1.heap.objs.size ≤ C) (hP : ∃ ps, H1 P = some (.tbl ps)) (kp : ∀ b o, b ≠ P → s1.heap.get? b = some o → s4.heap.get? b = some o) (un : Un (frs X.stack) [] H1 H4 s1.heap s4.heap) (hok : HOk X.prog X.w H4 s4.heap) (bare : AllBare s4.gens) (hos : s4.os = s1.os)
    (hns : s4.heap.Ns C m) (hCn : H4 C = none) (hpn : ∀ p ∈ pn, s4.heap.get? p.1 = some p.2 ∧ H4 p.1 = none ∧ p.1 ≠ C ∧ p.1 ∉ frs X.stack ∧ ∀ v, p.2.data ≠ .cell v) :
    Inv (genCx X x A s1 H1 (gEnv X scope C code)) pn (none :: σ) H4 s4 := by
  have hfree := L.has I.ok
  have e0 := I.env0
  obtain ⟨ps, hP⟩ := hP
  have cm : ∀ {y c}, (cloFrom X.env.cells scope.names []).lookup y = some c → X.env.cells.lookup y = some c := fun {y c} e => by
    rcases cloFrom_mem (PySem.mem_of_lookup e) with hm | ⟨h1, h2⟩
    · cases hm
    · obtain ⟨c1, hc⟩ := hfree _ h1 rfl
      have hc : X.env.cells.lookup y = some c1 := hc
      have e2 : c = c1 := by
        rw [h2, hc] <;> rfl
      rw [e2]
      exact hc
  have look : ∀ {y}, scope.names.lookup y = some .free → ∃ c, (cloFrom X.env.cells scope.names []).lookup y = some c := fun {y} hl => by
    have hy : (y, NameKind.free) ∈ scope.names := PySem.mem_of_lookup hl
    exact mem_lookup (cloFrom_has (cells := X.env.cells) (acc := []) hy)
  have nP : ∀ b, H1 b = none → b ≠ P := fun b n z => by rw [z, hP] at n; cases n
  have cellK : ∀ {c : Addr} {v : Option Value}, H1 c = none → s1.heap.IsCell c v → s4.heap.IsCell c v := fun {c v} n ⟨o, ho, hd⟩ => ⟨_, kp _ _ (nP _ n) ho, hd⟩
  have noA : ∀ b : Addr, b ∉ (genCx X x A s1 H1 (gEnv X scope C code)).ex := fun b z => absurd (show b ∈ ([] : List Addr) from z) (by simp)
  refine ⟨⟨e0.mod, L.kind, I.ok.glob, rfl, hC, fun y z c e1 e2 => I.ok.inj y z c (cm e1) (cm e2), fun y hy => ?_, fun y c z _ => ?_, fun _ => hd, Around.frames_deeper hf, .inr ⟨rfl, rfl⟩, fun b z => absurd z (noA b), e0.bs, e0.bsz, fun b _ _ => noA b,
      fun b z => absurd z (noA b), e0.funs, e0.frf⟩,
    hos, bare, un, ⟨_, hns, fun i y v' e1 e2 e3 => ?_⟩, fun y c e => ?_, hCn, fun y c e => ?_, fun q hq => ?_, hok, ?_⟩
  · have hy : scope.names.lookup y = some .cell ∨ scope.names.lookup y = some .free := hy
    rcases hy with hy | hy
    · exact absurd rfl (L.nocell _ (PySem.mem_of_lookup hy))
    · exact look hy
  · have z : false = true := z
    cases z
  · have e3 : Vis scope y := e3
    cases i with
    | zero =>
      have e2 : some (none : Option V) = some (some v') := e2
      cases e2
    | succ i =>
      have e1 : X.N[i]? = some y := e1
      have e2 : σ[i]? = some (some v') := e2
      have hyN := List.mem_of_getElem? e1
      rcases e3 with k | k | k
      · rcases L.own _ (PySem.mem_of_lookup k) rfl with z | z
        · exact absurd (by rw [← show y = x from z]; exact hyN) hx
        · exact absurd (by rw [← show y = ".0" from z]; exact hyN) hdot
      · exact absurd rfl (L.nocell _ (PySem.mem_of_lookup k))
      · obtain ⟨m, hn, hl⟩ := I.loc
        have hvis : Vis X.env.scope y := (L.free _ (PySem.mem_of_lookup k) rfl).elim (fun k => .inr (.inl k)) (fun k => .inr (.inr k))
        obtain ⟨w', r, q⟩ := hl i y v' e1 e2 hvis
        obtain ⟨c2, h2⟩ := look k
        refine ⟨w', r, .inr ⟨.inr k, c2, h2, ?_⟩⟩
        have c1 := cm h2
        rcases q with ⟨k', _⟩ | ⟨_, c3, e', z⟩
        · have k' : X.env.scope.names.lookup y = some .local := k'
          rcases L.free _ (PySem.mem_of_lookup k) rfl with k2 | k2 <;> rw [show X.env.scope.names.lookup y = _ from k2] at k' <;> cases k'
        · rw [c1] at e'
          cases e'
          exact cellK (I.freeC y _ c1) z
  · obtain ⟨w', z⟩ := I.cell y c (cm e)
    exact ⟨w', cellK (I.freeC y c (cm e)) z⟩
  · have n1 := I.freeC y c (cm e)
    obtain ⟨w', z⟩ := I.cell y c (cm e)
    obtain ⟨o, ho, _⟩ := z
    exact un.free c o ho n1 (by simp)
  · have hq : q ∈ pn := hq
    exact hpn q hq
  · show (none :: σ).length = (x :: X.N).length
    rw [List.length_cons, List.length_cons, I.len]
end
end Cl

set_option maxHeartbeats 0
namespace Cl
open PySem PySem.Spec PyProof.Rows L2
open GxR (TabB TabG Tabbed GenS inv_tab sh_eta)
theorem Inv.setGen {X : Cx} {pins : List (Addr × Obj)} {σ : L2.St} {H : Hp} {s : Shared} {g : Nat} {y : GenState} (I : Inv X pins σ H s) (hy : y.bare = true) : Inv X pins σ H (s.setGen g y) :=
  ⟨I.ok, I.os, allBare_setGen I.bare hy, I.base, I.loc, I.cell, I.free, I.freeC, I.pin, I.hok, I.len⟩
/-! ### the states of such a generator -/
def IterO (t : Addr) (i : Nat) (o : Obj) : Prop := o.cls = .type "tuple_iterator" ∧ o.data = .fields #[.ref t, .int (i : Nat) 0]
def GenO (g : Nat) (o : Obj) : Prop := ∃ nm qn, o.cls = .type "generator" ∧ o.data = .fields #[.int (g : Nat) 0, nm, qn] ∧ o.slots = #[]
structure GW (G : Cx) (x : Str) (I a t : Addr) (g : Nat) (xs : List V) (bs : Nat → Bool) (Pv : Nat → Hp → Prop) (tel : TE) (σ : L2.St) : Prop where
  calm : G.calm = true
  nd : G.N.Nodup
  nx : G.N[0]? = some x
  loc : G.env.scope.names.lookup x = some .local
  pn : G.pn = []
  xe : ∀ u s, ¬ G.xe u s
  tup : ∀ i H, Pv i H → SqT G.K H t xs
  I1 : G.s_0.heap.objs.size ≤ I
  I2 : I ≠ G.env.locals
  I3 : ∀ y c, G.env.cells.lookup y = some c → c ≠ I
  I4 : I ∉ G.fs
  I5 : I ≠ a
  el : ∀ i v H, xs[i]? = some v → Pv i H → tel (some v :: σ) H fun y H' => y = .bl (bs i) ∧ Pv (i + 1) H'
section
variable {G : Cx} {x : Str} {I a t : Addr} {g : Nat} {xs : List V} {bs : Nat → Bool} {Pv : Nat → Hp → Prop} {tel : TE} {σ : L2.St}
def gST (G : Cx) (I a t : Addr) (g : Nat) (Pv : Nat → Hp → Prop) (σ : L2.St) (i : Nat) (s : Shared) : Prop :=
  ∃ (H : Hp) (v : Option V) (oI oA : Obj), Inv G [(I, oI), (a, oA)] (v :: σ) H s ∧ Pv i H ∧ IterO t i oI ∧ GenO g oA ∧ g < s.gens.size
def gM1 (G : Cx) (I a t : Addr) (g : Nat) (xs : List V) (Pv : Nat → Hp → Prop) (σ : L2.St) (i : Nat) (u : Value) (s : Shared) : Prop :=
  ∃ (H : Hp) (v : Option V) (w : V) (oI oA : Obj), Inv G [(I, oI), (a, oA)] (v :: σ) H s ∧ Pv i H ∧ xs[i]? = some w ∧ RelV w u ∧ IterO t (i + 1) oI ∧ GenO g oA ∧ g < s.gens.size
def gM2 (G : Cx) (I a t : Addr) (g : Nat) (xs : List V) (Pv : Nat → Hp → Prop) (σ : L2.St) (i : Nat) (s : Shared) : Prop :=
  ∃ (H : Hp) (w : V) (oI oA : Obj), Inv G [(I, oI), (a, oA)] (some w :: σ) H s ∧ Pv i H ∧ xs[i]? = some w ∧ IterO t (i + 1) oI ∧ GenO g oA ∧ g < s.gens.size
def gFIN (G : Cx) (Pv : Nat → Hp → Prop) (σ : L2.St) (n : Nat) (s : Shared) : Prop := ∃ (H : Hp) (v : Option V), Inv G [] (v :: σ) H s ∧ Pv n H
theorem gw_gen {elt : Expr} {px : Pos} {A : Around} (hA : G.A = A.deeper G.env) (hh : A.handled = none) (W : GW G x I a t g xs bs Pv tel σ) (helt : PE G elt tel) :
    GenN G.prog G.w A G.env I x px elt xs.length bs (gST G I a t g Pv σ) (gM1 G I a t g xs Pv σ) (gM2 G I a t g xs Pv σ) (gFIN G Pv σ xs.length) := by
  have pinI : ∀ {oI oA : Obj} {v : Option V} {H : Hp} {s : Shared}, Inv G [(I, oI), (a, oA)] (v :: σ) H s → (s.heap.get? I = some oI ∧ H I = none) ∧ (s.heap.get? a = some oA ∧ H a = none ∧ a ≠ G.env.locals ∧ a ∉ G.fs ∧ ∀ v, oA.data ≠ .cell v) := fun {oI oA v H s} J => by
    have p1 := J.pin (I, oI) (List.mem_append_right _ (by simp))
    have p2 := J.pin (a, oA) (List.mem_append_right _ (by simp))
    exact ⟨⟨p1.1, p1.2.1⟩, p2⟩
  have rest : ∀ {oI oA : Obj} {v : Option V} {H : Hp} {s : Shared}, Inv G [(I, oI), (a, oA)] (v :: σ) H s → Inv G [(a, oA)] (v :: σ) H s := fun {oI oA v H s} J => J.pins_of fun p hp => by
    rw [List.mem_singleton.mp hp]
    exact (pinI J).2
  have turn : ∀ {oI oA : Obj} {v : Option V} {H : Hp} {s : Shared} {h' : Heap} {tk : Nat}, Inv G [(I, oI), (a, oA)] (v :: σ) H s → (∀ b o, b ∉ [I] → s.heap.get? b = some o → h'.get? b = some o) → Inv G [(a, oA)] (v :: σ) H { s with heap := h', toks := tk } := fun {oI oA v H s h' tk} J k =>
    (rest J).turned (it := I) (fun b o hb e => k b o (by simpa using hb) e) (pinI J).1.2 W.I2 (.inr W.I1) W.I3 fun p hp => by
      rw [W.pn] at hp
      rw [List.mem_singleton.mp hp]
      exact fun z => W.I5 z.symm
  have walk : ∀ {oI oA : Obj} {v : Option V} {H : Hp} {s : Shared} {i : Nat}, Inv G [(I, oI), (a, oA)] (v :: σ) H s → Pv i H → IterO t i oI → ∃ its : List Value, Vals xs its ∧ its.toArray.size = xs.length ∧ Walks G.prog G.w (A.deeper G.env) I [I, t] [I] its.toArray.size (fun i v => its.toArray[i]? = some v) (fun i h => h.IsTupleIter I t i ∧ h.IsTuple t its.toArray) ∧ s.heap.IsTupleIter I t i ∧ s.heap.IsTuple t its.toArray := fun {oI oA v H s i} J p hI => by
    obtain ⟨its, rv, tup, hz⟩ := J.tuple (W.tup i H p)
    have e1 := (pinI J).1.1
    have ne : t ≠ I := fun z => by
      obtain ⟨o, e2, e3, _⟩ := id tup
      rw [z, e1] at e2
      cases e2
      rw [hI.1] at e3
      exact absurd (Value.type.inj e3) (by decide)
    exact ⟨its, rv, by rw [List.size_toArray]; exact rv.length.symm, Walks.tuple (prog := G.prog) (w := G.w) (A := A.deeper G.env) (show (A.deeper G.env).handled = none from hh) I t ne its.toArray, ⟨oI, e1, hI.1, hI.2⟩, tup⟩
  refine ⟨fun i s Q E hi st hQ => ?_, fun i v s Q E h hQ => ?_, fun i s Q E h hQ => ?_, fun s Q E st hQ => ?_, fun s Q E st hQ => ?_⟩
  · obtain ⟨H, v, oI, oA, J, p, hI, hA, hg⟩ := st
    obtain ⟨its, rv, sz, Wk, d1, d2⟩ := walk J p hI
    refine Wk.item i s Q E (by rw [sz]; exact hi) ⟨d1, d2⟩ fun u h' tk hP st' hk => hQ u _ ?_
    have hu : its[i]? = some u := by simpa using hP
    obtain ⟨w, hw⟩ : ∃ w, xs[i]? = some w := ⟨_, List.getElem?_eq_getElem hi⟩
    obtain ⟨u', ev, rel⟩ := rv.get hw
    obtain rfl : u' = u := Option.some.inj (ev.symm.trans hu)
    obtain ⟨oI', g1, g2, g3⟩ := st'.1
    have J1 : Inv G [(a, oA)] (v :: σ) H { s with heap := h', toks := tk } := turn J hk
    refine ⟨H, v, w, oI', oA, J1.pins_of fun q hq => ?_, p, hw, rel, ⟨g2, g3⟩, hA, hg⟩
    rcases List.mem_cons.mp hq with rfl | hq
    · exact ⟨g1, (pinI J).1.2, W.I2, W.I4, fun v z => by rw [g3] at z; cases z⟩
    · rw [List.mem_singleton.mp hq]
      exact J1.pin (a, oA) (List.mem_append_right _ (by simp))
  · obtain ⟨H, v0, w, oI, oA, J, p, hw, rel, hI, hA2, hg⟩ := h
    refine GenW.wpAny_gsz (n := g + 1) hg ?_
    rw [← hA]
    refine wpAny_mono ((pg_name (X := G) (i := 0) W.nd W.nx (.inl W.loc) (.inr W.loc)).run _ s _ H w v (fun σ' H' => σ' = some w :: σ ∧ H' = H) J rel ⟨rfl, rfl⟩) (fun _ s' hs hsz => ?_) fun u s' hs => absurd hs (W.xe u s')
    obtain ⟨σ', H', J', rfl, rfl⟩ := hs
    exact hQ s' ⟨_, w, oI, oA, J', p, hw, hI, hA2, hsz⟩
  · obtain ⟨H, w, oI, oA, J, p, hw, hI, hA2, hg⟩ := h
    refine GenW.wpAny_gsz (n := g + 1) hg ?_
    rw [← hA]
    refine wpAny_mono (helt.run _ s _ H _ J (W.el i w H hw p)) (fun u s' hs hsz => ?_) fun u s' hs => absurd hs (W.xe u s')
    obtain ⟨y, H', J', r, rfl, p'⟩ := hs
    obtain rfl : u = Value.bool (bs i) := r
    exact hQ s' ⟨H', _, oI, oA, J', p', hI, hA2, hsz⟩
  · obtain ⟨H, v, oI, oA, J, p, hI, hA2, hg⟩ := st
    obtain ⟨its, rv, sz, Wk, d1, d2⟩ := walk J p hI
    rw [← sz] at d1
    refine Wk.done s Q E ⟨d1, d2⟩ fun h' tk hk => hQ _ ⟨H, v, ?_, p⟩
    have J1 : Inv G [(a, oA)] (v :: σ) H { s with heap := h', toks := tk } := turn J hk
    exact J1.pins_of fun q hq => nomatch hq
  · obtain ⟨H, v, oI, oA, J, p, hI, hA2, hg⟩ := st
    obtain ⟨its, rv, sz, Wk, d1, d2⟩ := walk J p hI
    exact Wk.self 0 s Q E ⟨d1, d2⟩ hQ
theorem gw_side : SideN a g (gST G I a t g Pv σ) where
  gen := fun i s ⟨H, v, oI, oA, J, _, _, ⟨nm, qn, h1, h2, h3⟩, _⟩ => ⟨oA, nm, qn, (J.pin (a, oA) (List.mem_append_right _ (by simp))).1, h1, h2, h3⟩
  lim := fun i s ⟨H, v, oI, oA, J, _⟩ => J.nolimit
  sz := fun i s ⟨_, _, _, _, _, _, _, _, h⟩ => h
  set := fun i s y hy ⟨H, v, oI, oA, J, p, hI, hA, hg⟩ => ⟨H, v, oI, oA, Inv.setGen J hy, p, hI, hA, by rw [GenW.setGen_size]; exact hg⟩
end
/-! ### the loops of all and any over it -/
section
variable {prog : Program} {w : World} {A : Around} {a : Addr} {g n₀ : Nat} {bs : Nat → Bool} {ST : Nat → Shared → Prop} {FIN : Shared → Prop} {R : Result → Shared → Prop}
theorem all_loopN (hh : A.handled = none) (hroom : A.depth < recursionLimit) (S : SideN a g ST) : ∀ (k i : Nat) (s : Shared), n₀ - i = k → i ≤ n₀ → AtN prog w A.in1.in1 a g n₀ bs ST FIN i s → (∀ j, j < i → bs j = true) →
    (∀ i s', i < n₀ → bs i = false → ST (i + 1) s' → R (.ok (.ret (.bool false))) s') →
    (∀ s' h', (∀ j, j < n₀ → bs j = true) → FIN s' → (∀ b o, s'.heap.get? b = some o → h'.get? b = some o) → R (.ok (.ret (.bool true))) { s'.setGen g .finished with heap := h' }) →
    codeAny (model prog w) A (.builtin "all.loop" ⟨[.ref a], []⟩) R s := by
  intro k
  induction k with
  | zero =>
    intro i s hk hi h pre r1 r2
    have hin : i = n₀ := by omega
    subst hin
    refine codeAny_builtin F.entry_all_loop ?_
    rw [Around.under_plainId F.plain_all_loop _]
    show wpAny _ A.in1 (pyNext (.ref a) >>= _) _ _ s
    refine wpAny_bind (nextN_done (A := A.in1) hh hroom S h fun s' h' hf hk => ?_)
    exact wpAny_bind (wpAny_rule (wpAny_pure (r2 s' h' pre hf hk)))
  | succ k ih =>
    intro i s hk hi h pre r1 r2
    have hlt : i < n₀ := by omega
    refine codeAny_builtin F.entry_all_loop ?_
    rw [Around.under_plainId F.plain_all_loop _]
    show wpAny _ A.in1 (pyNext (.ref a) >>= _) _ _ s
    refine wpAny_bind (nextN_item (A := A.in1) hh hroom S hlt h fun s' h' => ?_)
    refine wpAny_bind (wpAny_holding (wpAny_truthy_bool ?_))
    refine wpAny_bind (wpAny_letGo ?_)
    cases hb : bs i with
    | true =>
      simp only [if_true]
      exact wpAny_pure ⟨plainId_quiet F.plain_all_loop _, ih (i + 1) _ (by omega) hlt h' (fun j hj => by
        by_cases e : j = i
        · rw [e, hb]
        · exact pre j (by omega)) r1 r2⟩
    | false =>
      simp only [Bool.false_eq_true, if_false]
      exact wpAny_bind (wpAny_rule (wpAny_pure (r1 i s' hlt hb h'.st)))
theorem any_loopN (hh : A.handled = none) (hroom : A.depth < recursionLimit) (S : SideN a g ST) : ∀ (k i : Nat) (s : Shared), n₀ - i = k → i ≤ n₀ → AtN prog w A.in1.in1 a g n₀ bs ST FIN i s → (∀ j, j < i → bs j = false) →
    (∀ i s', i < n₀ → bs i = true → ST (i + 1) s' → R (.ok (.ret (.bool true))) s') →
    (∀ s' h', (∀ j, j < n₀ → bs j = false) → FIN s' → (∀ b o, s'.heap.get? b = some o → h'.get? b = some o) → R (.ok (.ret (.bool false))) { s'.setGen g .finished with heap := h' }) →
    codeAny (model prog w) A (.builtin "any.loop" ⟨[.ref a], []⟩) R s := by
  intro k
  induction k with
  | zero =>
    intro i s hk hi h pre r1 r2
    have hin : i = n₀ := by omega
    subst hin
    refine codeAny_builtin F.entry_any_loop ?_
    rw [Around.under_plainId F.plain_any_loop _]
    show wpAny _ A.in1 (pyNext (.ref a) >>= _) _ _ s
    refine wpAny_bind (nextN_done (A := A.in1) hh hroom S h fun s' h' hf hk => ?_)
    exact wpAny_bind (wpAny_rule (wpAny_pure (r2 s' h' pre hf hk)))
  | succ k ih =>
    intro i s hk hi h pre r1 r2
    have hlt : i < n₀ := by omega
    refine codeAny_builtin F.entry_any_loop ?_
    rw [Around.under_plainId F.plain_any_loop _]
    show wpAny _ A.in1 (pyNext (.ref a) >>= _) _ _ s
    refine wpAny_bind (nextN_item (A := A.in1) hh hroom S hlt h fun s' h' => ?_)
    refine wpAny_bind (wpAny_holding (wpAny_truthy_bool ?_))
    refine wpAny_bind (wpAny_letGo ?_)
    cases hb : bs i with
    | false =>
      simp only [Bool.false_eq_true, if_false]
      exact wpAny_pure ⟨plainId_quiet F.plain_any_loop _, ih (i + 1) _ (by omega) hlt h' (fun j hj => by
        by_cases e : j = i
        · rw [e, hb]
        · exact pre j (by omega)) r1 r2⟩
    | true =>
      simp only [if_true]
      exact wpAny_bind (wpAny_rule (wpAny_pure (r1 i s' hlt hb h'.st)))
end
end Cl

set_option maxHeartbeats 0
namespace Cl
open PySem PySem.Spec PyProof.Rows L2
open GxR (TabB TabG Tabbed GenS inv_tab sh_eta)
/-- all(elt for x in t), any(..), t a tuple: by a word on the heaps ahead of each turn -/
def tAllN (K : PySem.W.Frag) (P : Addr) (stop : Bool) (te tel : TE) : TE := fun σ H Q => te σ H fun v H1 => ∃ (t : Addr) (xs : List V) (bs : Nat → Bool) (Pv : Nat → Hp → Prop), v = .ref t ∧ SqT K H1 t xs ∧ TabG H1 P ∧
  (∀ i H, Pv i H → SqT K H t xs) ∧ (∀ H2, Same H1 H2 → TabG H2 P → Pv 0 H2) ∧
  (∀ i x H2, xs[i]? = some x → Pv i H2 → tel (some x :: σ) H2 fun y H3 => y = .bl (bs i) ∧ Pv (i + 1) H3) ∧
  (∀ i H2, i < xs.length → bs i = stop → Pv (i + 1) H2 → Q (.bl stop) H2) ∧ (∀ H2, (∀ i, i < xs.length → bs i = !stop) → Pv xs.length H2 → Q (.bl (!stop)) H2)
section
variable {X : Cx}
theorem gen_core {c P : Addr} {elt iter : Expr} {x : Str} {px gpos : Pos} {scope : Scope} {tel : TE} {k : Nat} {pins : List (Addr × Obj)} {σ : L2.St} {s1 : Shared} {H1 : Hp} {t : Addr} {xs : List V} {bs : Nat → Bool} {Pv : Nat → Hp → Prop} {Q' : Value → Shared → Prop}
    (hr : RG (k + 2) X.A) (TB : TabB X.base X.mg c P) (hcode : X.env.code = .ref c) (L : GenK X.env.scope scope x) (hx : x ∉ X.N) (hdot : (".0" : Str) ∉ X.N) (hN : X.N.Nodup)
    (helt : ∀ (s1 : Shared) (H1 : Hp) (C : Addr) (code : Value), RG k (X.A.in1.in1.deeper (gEnv X scope C code)) → PE (genCx X x X.A.in1.in1 s1 H1 (gEnv X scope C code)) elt tel)
    (I1 : Inv X pins σ H1 s1) (hS : SqT X.K H1 t xs) (hT : TabG H1 P) (hpt : ∀ i H, Pv i H → SqT X.K H t xs) (hp0 : ∀ H2, Same H1 H2 → TabG H2 P → Pv 0 H2)
    (hpe : ∀ i x H2, xs[i]? = some x → Pv i H2 → tel (some x :: σ) H2 fun y H3 => y = .bl (bs i) ∧ Pv (i + 1) H3)
    (hQ : ∀ (a : Addr) (g : Nat) (s5 : Shared) (ST : Nat → Shared → Prop) (FIN : Shared → Prop), s5.heap.IsGen a g → SideN a g ST → AtN X.prog X.w X.A.in1.in1 a g xs.length bs ST FIN 0 s5 →
      (∀ i s', ST i s' → ∃ H', (Pv i H') ∧ ∀ (b : Bool) (Q : VK), Q (.bl b) H' → EP X pins σ Q (.bool b) s') →
      (∀ s' h', FIN s' → (∀ b o, s'.heap.get? b = some o → h'.get? b = some o) → ∃ H', (Pv xs.length H') ∧ ∀ (b : Bool) (Q : VK), Q (.bl b) H' → EP X pins σ Q (.bool b) { s'.setGen g .finished with heap := h' }) → Q' (.ref a) s5) :
    wpAny (model X.prog X.w) X.A (pyIter (.ref t)) (fun it s₂ => s₂.heap.NoLimit ∧
      wpAny (model X.prog X.w) X.A (genexprCode X.env gpos (X.env.qual ++ "<genexpr>") scope) (fun code s₃ => wpAny (model X.prog X.w) X.A (builtinsFor X.env.globals X.env.builtins) (fun bi s₄ =>
        ∀ h', h'.Ns s₄.heap.objs.size (fun y => if y = ".0" then some it else none) → Heap.SameBut s₄.heap.objs.size (s₄.heap.push { cls := .type "frame", data := .dict #[] }) h' →
          Q' (.ref h'.objs.size) { s₄ with
            gens := s₄.gens.push (.fresh (.compStart (.GeneratorExp elt [⟨.Name x px, iter, [], 0⟩] scope gpos) 0 it .none (genEnv scope (cloFrom X.env.cells scope.names []) s₄.heap.objs.size code bi X.env))),
            toks := s₄.toks + 1 + 1 + 1,
            heap := h'.push { cls := .type "generator", data := .fields #[.int s₄.gens.size 0, .str "<genexpr>" (s₄.toks + 1), .str (X.env.qual ++ "<genexpr>") (s₄.toks + 1 + 1)] } }) X.xe s₃) X.xe s₂) X.xe s1 := by
  obtain ⟨ps, hP, ht⟩ := id hT
  obtain ⟨its, rv, tup, hz⟩ := I1.tuple hS
  refine wpAny_pyIter_tuple tup ?_
  have hPs : s1.heap.get? P = some { cls := .none, data := .fields ps } := I1.hok P _ hP
  have hPlt : P < s1.heap.objs.size := Heap.lt_size hPs
  generalize hito : ({ cls := .type "tuple_iterator", data := .fields #[.ref t, .int 0 0] } : Obj) = ito
  have hP2 : (s1.heap.push ito).get? P = some { cls := .none, data := .fields ps } := Heap.get?_push_of_some _ hPs
  have cd : PySem.W.CodeHd (s1.heap.push ito) c P := TB.code.keeps fun b u e => Heap.get?_push_of_some _ (I1.bk b u e)
  have lim2 : (s1.heap.push ito).NoLimit := I1.nolimit.push ito
  have sz2 : (s1.heap.push ito).objs.size = s1.heap.objs.size + 1 := Heap.size_push ..
  have cont : ∀ (code : Value) (h3 : Heap) (tk : Nat) (ps' : Array Value), Heap.ExtBut P (s1.heap.push ito) h3 → (s1.heap.push ito).objs.size ≤ h3.objs.size → h3.get? P = some { cls := .none, data := .fields ps' } → (∃ more, ps' = ps ++ more) → TriplesOk ps'.toList →
      wpAny (model X.prog X.w) X.A (builtinsFor X.env.globals X.env.builtins) (fun bi s₄ =>
        ∀ h', h'.Ns s₄.heap.objs.size (fun y => if y = ".0" then some (.ref s1.heap.objs.size) else none) → Heap.SameBut s₄.heap.objs.size (s₄.heap.push { cls := .type "frame", data := .dict #[] }) h' →
          Q' (.ref h'.objs.size) { s₄ with
            gens := s₄.gens.push (.fresh (.compStart (.GeneratorExp elt [⟨.Name x px, iter, [], 0⟩] scope gpos) 0 (.ref s1.heap.objs.size) .none (genEnv scope (cloFrom X.env.cells scope.names []) s₄.heap.objs.size code bi X.env))),
            toks := s₄.toks + 1 + 1 + 1,
            heap := h'.push { cls := .type "generator", data := .fields #[.int s₄.gens.size 0, .str "<genexpr>" (s₄.toks + 1), .str (X.env.qual ++ "<genexpr>") (s₄.toks + 1 + 1)] } }) X.xe { s1 with heap := h3, toks := tk } := by
    intro code h3 tk ps' hx3 hsz hP3 hmore ht3
    obtain ⟨bm, ob, e1, e2, e3, e4, e5, e6, e7, e8⟩ := TB.bm
    have keep3 : ∀ b u, b ≠ P → s1.heap.get? b = some u → h3.get? b = some u := fun b u hb e => hx3 b u hb (Heap.get?_push_of_some _ e)
    refine wpAny_builtinsFor (m := X.mg) (by rw [I1.ok.glob]; exact ((I1.mod.glob.keeps I1.bk).push ito).extBut hx3 TB.gP) e1 e2 (keep3 _ _ e4 (I1.bk _ _ e5)) e6 e7 e8 ?_
    intro h4 hns4 hsb4
    show Q' (.ref h4.objs.size) _
    have hC4 : h4.objs.size = h3.objs.size + 1 := by rw [hsb4.1, Heap.size_push]
    obtain ⟨more, em⟩ := hmore
    subst em
    have nP : ∀ b, H1 b = none → b ≠ P := fun b n z => by rw [z, hP] at n; cases n
    have keep4 : ∀ b u, b ≠ P → s1.heap.get? b = some u → h4.get? b = some u := fun b u hb e => hsb4.extBut b u (Nat.ne_of_lt (Nat.lt_of_lt_of_le (Heap.lt_size e) (Nat.le_trans (by rw [sz2]; exact Nat.le_succ _) hsz))) (Heap.get?_push_of_some _ (keep3 b u hb e))
    have hP4 : h4.get? P = some { cls := .none, data := .fields (ps ++ more) } := hsb4.extBut P _ (Nat.ne_of_lt (Nat.lt_of_lt_of_le hPlt (Nat.le_trans (by rw [sz2]; exact Nat.le_succ _) hsz))) (Heap.get?_push_of_some _ hP3)
    have hI4 : h4.get? s1.heap.objs.size = some ito := hsb4.extBut _ _ (Nat.ne_of_lt (Nat.lt_of_lt_of_le (by rw [sz2]; exact Nat.lt_succ_self _) hsz)) (Heap.get?_push_of_some _ (hx3 _ _ (fun z => Nat.ne_of_lt hPlt z.symm) (Heap.get?_push_size _ (by rw [← hito]; rfl))))
    generalize hgo : ({ cls := .type "generator", data := .fields #[.int s1.gens.size 0, .str "<genexpr>" (tk + 1), .str (X.env.qual ++ "<genexpr>") (tk + 1 + 1)] } : Obj) = go
    have hA5 : (h4.push go).get? h4.objs.size = some go := Heap.get?_push_size _ (by rw [← hgo]; rfl)
    have keep5 : ∀ b u, b ≠ P → s1.heap.get? b = some u → (h4.push go).get? b = some u := fun b u hb e => Heap.get?_push_of_some _ (keep4 b u hb e)
    have hP5 : (h4.push go).get? P = some { cls := .none, data := .fields (ps ++ more) } := Heap.get?_push_of_some _ hP4
    have hI5 : (h4.push go).get? s1.heap.objs.size = some ito := Heap.get?_push_of_some _ hI4
    generalize hgs : (GenState.fresh (.compStart (.GeneratorExp elt [⟨.Name x px, iter, [], 0⟩] scope gpos) 0 (.ref s1.heap.objs.size) .none (gEnv X scope h3.objs.size code))) = gs
    have gb : gs.bare = true := by rw [← hgs]; rfl
    have J := inv_tab (more := more) (h' := h4.push go) (g' := s1.gens.push gs) (d' := s1.drawn) (t' := tk + 1 + 1 + 1) I1 hP keep5 hP5 (I1.bare.push gb)
    have fresh : ∀ b, s1.heap.objs.size ≤ b → b ≠ P → upd H1 P (.tbl (ps ++ more)) b = none := fun b hb n => by rw [upd_ne n]; exact I1.hok.fresh hb
    have neP : ∀ b, s1.heap.objs.size ≤ b → b ≠ P := fun b hb z => by rw [z] at hb; exact absurd hPlt (Nat.not_lt.mpr hb)
    have noStk : ∀ b, s1.heap.objs.size ≤ b → b ∉ frs X.stack := fun b hb z => by
      rcases List.mem_cons.mp (I1.stkSub b z) with e | z
      · rw [e] at hb; exact absurd I1.lt (Nat.not_lt.mpr hb)
      · exact I1.nofs hb z
    have lI : s1.heap.objs.size ≤ s1.heap.objs.size := Nat.le_refl _
    have lC : s1.heap.objs.size ≤ h3.objs.size := Nat.le_trans (by rw [sz2]; exact Nat.le_succ _) hsz
    have lC2 : s1.heap.objs.size < h3.objs.size := Nat.lt_of_lt_of_le (by rw [sz2]; exact Nat.lt_succ_self _) hsz
    have lA : s1.heap.objs.size ≤ h4.objs.size := by rw [hC4]; exact Nat.le_trans lC (Nat.le_succ _)
    have un : Un (frs X.stack) [] H1 (upd H1 P (.tbl (ps ++ more))) s1.heap (h4.push go) := by
      have at_ : ∀ b, b ≠ P → upd H1 P (.tbl (ps ++ more)) b = H1 b := fun b h => upd_ne h
      have nQ : ∀ b u, H1 b = some u → (∀ q, u ≠ .tbl q) → b ≠ P := fun b u e q z => by
        rw [z, hP] at e
        exact q _ (Option.some.inj e).symm
      refine ⟨fun b o e n _ _ => keep5 b o (nP b n) e, fun b o e n _ _ => ⟨o.slots, keep5 b o (nP b n) e⟩, fun b o _ n _ => by rw [at_ b (nP b n)]; exact n, fun b o e _ => ?_, fun b ys e => by rw [at_ b (nQ b _ e fun q z => nomatch z)]; exact e, fun b o u e => by rw [at_ b (nQ b _ e fun q z => nomatch z)]; exact e, fun b qs e => ?_⟩
      · by_cases hb : b = P
        · rw [hb]; exact ⟨_, hP5⟩
        · exact ⟨o, keep5 b o hb e⟩
      · by_cases hb : b = P
        · rw [hb, hP] at e
          cases e
          exact ⟨more, by rw [hb, upd_same]⟩
        · exact ⟨#[], by rw [at_ b hb, e]; simp⟩
    have St := gen_start (C := h3.objs.size) (P := P) (code := code) (m := fun y => if y = ".0" then some (.ref s1.heap.objs.size) else none) (A := X.A.in1.in1) (s4 := { s1 with heap := h4.push go, gens := s1.gens.push gs, drawn := s1.drawn, toks := tk + 1 + 1 + 1 }) (pn := [(s1.heap.objs.size, ito), (h4.objs.size, go)]) I1 L I1.ok.frames hr.room.hd hx hdot lC ⟨ps, hP⟩ keep5 un J.hok J.bare rfl
      (hns4.push _) (fresh _ lC (neP _ lC)) (fun p hp => by
        rcases List.mem_cons.mp hp with rfl | hp
        · exact ⟨hI5, fresh _ lI (neP _ lI), Nat.ne_of_lt lC2, noStk _ lI, fun v z => by rw [← hito] at z; cases z⟩
        · rw [List.mem_singleton.mp hp]
          exact ⟨hA5, fresh _ lA (neP _ lA), by show h4.objs.size ≠ h3.objs.size; rw [hC4]; exact Nat.succ_ne_self _, noStk _ lA, fun v z => by rw [← hgo] at z; cases z⟩)
    have tb : Tabbed P H1 (upd H1 P (.tbl (ps ++ more))) := ⟨⟨ps ++ more, upd_same, ht3⟩, fun b hb => upd_ne hb⟩
    have sm := Same.tabbed hT tb
    have celI : ∀ y c, (cloFrom X.env.cells scope.names []).lookup y = some c → c ≠ s1.heap.objs.size := fun y c e z => by
      have hfree := L.has I1.ok
      have e2 : X.env.cells.lookup y = some c := by
        rcases cloFrom_mem (PySem.mem_of_lookup e) with hm | ⟨h1, h2⟩
        · cases hm
        · obtain ⟨c1, hc⟩ := hfree _ h1 rfl
          have hc : X.env.cells.lookup y = some c1 := hc
          have e2 : c = c1 := by rw [h2, hc] <;> rfl
          rw [e2]
          exact hc
      obtain ⟨v, q⟩ := I1.cell y c e2
      have := q.lt
      rw [z] at this
      exact Nat.lt_irrefl _ this
    have hrG : RG k (X.A.in1.in1.deeper (gEnv X scope h3.objs.size code)) := ⟨⟨hr.room.hd, by have := hr.room.dp; show X.A.depth + 1 + 3 * k + 5 < _; omega, by have := hr.room.un; show X.A.units + 1 + 1 + 3 + 16 * k + 200 < _; omega⟩, hr.gd⟩
    have GWw : GW (genCx X x X.A.in1.in1 s1 H1 (gEnv X scope h3.objs.size code)) x s1.heap.objs.size h4.objs.size t s1.gens.size xs bs Pv tel σ := by
      refine ⟨rfl, List.nodup_cons.mpr ⟨hx, hN⟩, rfl, L.par, rfl, fun u s z => z, hpt, lI, Nat.ne_of_lt lC2, celI, noStk _ lI, Nat.ne_of_lt (by rw [hC4]; exact Nat.lt_succ_of_lt lC2), fun i v H hv p => hpe i v H hv p⟩
    have GG := gw_gen (px := px) (elt := elt) (A := X.A.in1.in1) (by rfl) hr.room.hd GWw (helt s1 H1 _ _ hrG)
    have eC : s1.gens.push gs = s1.gens.push gs := rfl
    have p0 : Pv 0 (upd H1 P (.tbl (ps ++ more))) := hp0 _ sm tb.1
    have st0 : gST (genCx X x X.A.in1.in1 s1 H1 (gEnv X scope h3.objs.size code)) s1.heap.objs.size h4.objs.size t s1.gens.size Pv σ 0 { s1 with heap := h4.push go, gens := s1.gens.push gs, drawn := s1.drawn, toks := tk + 1 + 1 + 1 } :=
      ⟨_, none, ito, go, St, p0, by rw [← hito]; exact ⟨rfl, rfl⟩, by rw [← hgo]; exact ⟨_, _, rfl, rfl, rfl⟩, by show s1.gens.size < (s1.gens.push gs).size; rw [Array.size_push]; exact Nat.lt_succ_self _⟩
    have side := gw_side (G := genCx X x X.A.in1.in1 s1 H1 (gEnv X scope h3.objs.size code)) (I := s1.heap.objs.size) (a := h4.objs.size) (t := t) (g := s1.gens.size) (Pv := Pv) (σ := σ)
    have back : ∀ {pn : List (Addr × Obj)} {v : Option V} {H : Hp} {s' : Shared}, Inv (genCx X x X.A.in1.in1 s1 H1 (gEnv X scope h3.objs.size code)) pn (v :: σ) H s' → ∀ (b : Bool) (Q : VK), Q (.bl b) H → EP X pins σ Q (.bool b) s' := fun {pn v H s'} J b Q q =>
      I1.after ⟨.bl b, H, J.os, J.bare, J.base, J.hok, rfl, q⟩
    have out1 : ∀ i s', gST (genCx X x X.A.in1.in1 s1 H1 (gEnv X scope h3.objs.size code)) s1.heap.objs.size h4.objs.size t s1.gens.size Pv σ i s' → ∃ H', (Pv i H') ∧ ∀ (b : Bool) (Q : VK), Q (.bl b) H' → EP X pins σ Q (.bool b) s' :=
      fun i s' ⟨H', v, oI, oA, J', p, _⟩ => ⟨H', p, fun b Q q => back J' b Q q⟩
    have out2 : ∀ s' h', gFIN (genCx X x X.A.in1.in1 s1 H1 (gEnv X scope h3.objs.size code)) Pv σ xs.length s' → (∀ b o, s'.heap.get? b = some o → h'.get? b = some o) → ∃ H', (Pv xs.length H') ∧ ∀ (b : Bool) (Q : VK), Q (.bl b) H' → EP X pins σ Q (.bool b) { s'.setGen s1.gens.size .finished with heap := h' } :=
      fun s' h' ⟨H', v, J', p⟩ k => ⟨H', p, fun b Q q => back (Inv.kept (t' := s'.toks) (Inv.setGen (g := s1.gens.size) (y := .finished) J' rfl) k) b Q q⟩
    refine hQ h4.objs.size s1.gens.size _ _ _ (side.gen 0 _ st0) side ⟨st0, gs, Array.getElem?_push_size .., fun s'' hal => ?_⟩ out1 out2
    rw [← hgs]
    exact ⟨rfl, by rw [Nat.sub_zero]; exact seg_startN (iter := iter) (scope := scope) (pos := gpos) L.co GG s'' s'' hal⟩
  refine ⟨lim2, ?_⟩
  cases hf : codeAmong gpos ps.toList with
  | none =>
    refine wpAny_genexprCodeX hcode (cd.code hP2 ht) (cd.tab hP2) hf fun c' h' tk hx hge hlt hco' _ htab' _ => ?_
    obtain ⟨o1, vs, f1, tf, fl, tg, inF, tx, tt, op, _, _, _, _, _, _, _, _, _, htr, _⟩ := hco'
    exact cont _ h' tk _ hx (Nat.le_trans hge (Nat.le_of_lt hlt)) htab'.2 ⟨_, rfl⟩ htr
  | some cv =>
    refine wpAny_genexprCode_hit hcode (cd.code hP2 ht) hf ?_
    exact cont cv (s1.heap.push ito) s1.toks ps (Heap.ExtBut.refl _ _) (Nat.le_refl _) hP2 ⟨#[], by simp⟩ ht
theorem pe_allN {c P : Addr} {elt iter : Expr} {x : Str} {px p pos gpos : Pos} {scope : Scope} {te tel : TE} {k : Nat}
    (hr : RG (k + 2) X.A) (hg : Gl X "all") (hm : X.mg "all" = none) (TB : TabB X.base X.mg c P) (hcode : X.env.code = .ref c) (L : GenK X.env.scope scope x) (hx : x ∉ X.N) (hdot : (".0" : Str) ∉ X.N) (hN : X.N.Nodup) (hi : PE X iter te)
    (helt : ∀ (s1 : Shared) (H1 : Hp) (C : Addr) (code : Value), RG k (X.A.in1.in1.deeper (gEnv X scope C code)) → PE (genCx X x X.A.in1.in1 s1 H1 (gEnv X scope C code)) elt tel)
    (hs : ∀ v, genFold iter X.env v = pure v := by intro _; rfl)
    (he : starEach [.GeneratorExp elt [⟨.Name x px, iter, [], 0⟩] scope gpos] X.env = (false, eval (.GeneratorExp elt [⟨.Name x px, iter, [], 0⟩] scope gpos) X.env) :: starEach [] X.env := by rfl) :
    PE X (.Call (.Name "all" p) [.GeneratorExp elt [⟨.Name x px, iter, [], 0⟩] scope gpos] [] pos) (tAllN X.K P false te tel) := by
  refine ⟨fun pins s σ H Q I h => ?_⟩
  refine wpAny_Call_Name_kw (ld_blt I hg hm PyProof.Rows.boot_all ?_)
  refine PyProof.Rows.callWith_builtin1 ?_ he (by rfl)
  rw [he]
  show wpAny _ _ (spliced ((false, eval (.GeneratorExp elt [⟨.Name x px, iter, [], 0⟩] scope gpos) X.env) :: backTo pos (starEach [] X.env))) _ _ s
  refine Calls.spliced_cons ?_
  refine wpAny_GeneratorExp_make L.co (closure_ok (L.has I.ok)) L.nocell L.dot L.kind (by have := hr.room.dp; omega) ?_ hs
  refine thn (hi.run pins s σ H _ I h) fun xv s1 ⟨v, H1, I1, r1, q1⟩ => ?_
  obtain ⟨t, xs, bs, Pv, rfl, hS, hT, hpt, hp0, hpe, q2, q3⟩ := q1
  cases r1
  refine gen_core (gpos := gpos) (px := px) (iter := iter) (x := x) (elt := elt) (scope := scope) (Q' := fun v s' => wpAny (model X.prog X.w) X.A (spliced (backTo pos (starEach [] X.env))) (fun vs s2 => wpAny (model X.prog X.w) X.A (call (.builtin "all") (v :: vs)) (EP X pins σ Q) X.xe s2) X.xe s') hr TB hcode L hx hdot hN helt I1 hS hT hpt hp0 hpe fun a g s5 ST FIN hgen side at_ out1 out2 => ?_
  refine Calls.spliced_nil ?_
  refine call_function_tree PySem.F.kind_all PySem.F.plain_all PySem.F.entry_all (PySem.F.args_all1 _) ?_
  unfold Builtin.«all»
  refine wpAny_bind (m := oneArg "all" _) (wpAny_pure ?_)
  refine wpAny_bind (wpAny_pyIter_gen hgen ?_)
  refine wpAny_pure ⟨plainId_quiet PySem.F.plain_all_loop _, all_loopN (A := X.A) hr.room.hd (by have := hr.room.dp; omega) side _ 0 s5 rfl (Nat.zero_le _) at_ (fun j hj => absurd hj (Nat.not_lt_zero _)) (fun i s' hi hb st => ?_) fun s' h' all hf hk => ?_⟩
  · obtain ⟨H', p, e⟩ := out1 (i + 1) s' st
    exact e false Q (q2 i H' hi hb p)
  · obtain ⟨H', p, e⟩ := out2 s' h' hf hk
    exact e true Q (q3 H' all p)
theorem pe_anyN {c P : Addr} {elt iter : Expr} {x : Str} {px p pos gpos : Pos} {scope : Scope} {te tel : TE} {k : Nat}
    (hr : RG (k + 2) X.A) (hg : Gl X "any") (hm : X.mg "any" = none) (TB : TabB X.base X.mg c P) (hcode : X.env.code = .ref c) (L : GenK X.env.scope scope x) (hx : x ∉ X.N) (hdot : (".0" : Str) ∉ X.N) (hN : X.N.Nodup) (hi : PE X iter te)
    (helt : ∀ (s1 : Shared) (H1 : Hp) (C : Addr) (code : Value), RG k (X.A.in1.in1.deeper (gEnv X scope C code)) → PE (genCx X x X.A.in1.in1 s1 H1 (gEnv X scope C code)) elt tel)
    (hs : ∀ v, genFold iter X.env v = pure v := by intro _; rfl)
    (he : starEach [.GeneratorExp elt [⟨.Name x px, iter, [], 0⟩] scope gpos] X.env = (false, eval (.GeneratorExp elt [⟨.Name x px, iter, [], 0⟩] scope gpos) X.env) :: starEach [] X.env := by rfl) :
    PE X (.Call (.Name "any" p) [.GeneratorExp elt [⟨.Name x px, iter, [], 0⟩] scope gpos] [] pos) (tAllN X.K P true te tel) := by
  refine ⟨fun pins s σ H Q I h => ?_⟩
  refine wpAny_Call_Name_kw (ld_blt I hg hm PyProof.Rows.boot_any ?_)
  refine PyProof.Rows.callWith_builtin1 ?_ he (by rfl)
  rw [he]
  show wpAny _ _ (spliced ((false, eval (.GeneratorExp elt [⟨.Name x px, iter, [], 0⟩] scope gpos) X.env) :: backTo pos (starEach [] X.env))) _ _ s
  refine Calls.spliced_cons ?_
  refine wpAny_GeneratorExp_make L.co (closure_ok (L.has I.ok)) L.nocell L.dot L.kind (by have := hr.room.dp; omega) ?_ hs
  refine thn (hi.run pins s σ H _ I h) fun xv s1 ⟨v, H1, I1, r1, q1⟩ => ?_
  obtain ⟨t, xs, bs, Pv, rfl, hS, hT, hpt, hp0, hpe, q2, q3⟩ := q1
  cases r1
  refine gen_core (gpos := gpos) (px := px) (iter := iter) (x := x) (elt := elt) (scope := scope) (Q' := fun v s' => wpAny (model X.prog X.w) X.A (spliced (backTo pos (starEach [] X.env))) (fun vs s2 => wpAny (model X.prog X.w) X.A (call (.builtin "any") (v :: vs)) (EP X pins σ Q) X.xe s2) X.xe s') hr TB hcode L hx hdot hN helt I1 hS hT hpt hp0 hpe fun a g s5 ST FIN hgen side at_ out1 out2 => ?_
  refine Calls.spliced_nil ?_
  refine call_function_tree PySem.F.kind_any PySem.F.plain_any PySem.F.entry_any (PySem.F.args_any1 _) ?_
  unfold Builtin.«any»
  refine wpAny_bind (m := oneArg "any" _) (wpAny_pure ?_)
  refine wpAny_bind (wpAny_pyIter_gen hgen ?_)
  refine wpAny_pure ⟨plainId_quiet PySem.F.plain_any_loop _, any_loopN (A := X.A) hr.room.hd (by have := hr.room.dp; omega) side _ 0 s5 rfl (Nat.zero_le _) at_ (fun j hj => absurd hj (Nat.not_lt_zero _)) (fun i s' hi hb st => ?_) fun s' h' all hf hk => ?_⟩
  · obtain ⟨H', p, e⟩ := out1 (i + 1) s' st
    exact e true Q (q2 i H' hi hb p)
  · obtain ⟨H', p, e⟩ := out2 s' h' hf hk
    exact e false Q (q3 H' all p)
end
end Cl

set_option maxHeartbeats 0
namespace Cl
open PySem PySem.Spec PyProof.Rows L2
/-! ### data with dicts of one key at most -/
mutual
inductive Dq (K : PySem.W.Frag) (H : Hp) : V → PyData → Prop
  | non : Dq K H .non .none
  | bl (b : Bool) : Dq K H (.bl b) (.bool b)
  | int (i : Int) : Dq K H (.int i) (.int i)
  | str (x : Str) : Dq K H (.str x) (.str x)
  | lst {a : Addr} {xs : List V} {ds : List PyData} : a ≠ sysModules → H a = some (.lst xs) → DqAll K H xs ds → Dq K H (.ref a) (.list ds)
  | tup {a : Addr} {xs : List V} {ds : List PyData} : SqT K H a xs → DqAll K H xs ds → Dq K H (.ref a) (.tuple ds)
  | emp {a : Addr} : H a = some (.dK []) → Dq K H (.ref a) (.dict [])
  | one {a : Addr} {i : Int} {v : V} {d : PyData} : H a = some (.dK [(.inl i, v)]) → Dq K H v d → Dq K H (.ref a) (.dict [(.int i, d)])
inductive DqAll (K : PySem.W.Frag) (H : Hp) : List V → List PyData → Prop
  | nil : DqAll K H [] []
  | cons {v : V} {vs : List V} {d : PyData} {ds : List PyData} : Dq K H v d → DqAll K H vs ds → DqAll K H (v :: vs) (d :: ds)
end
section
variable {K : PySem.W.Frag} {H H' : Hp}
mutual
/-- what keeps lists, tuples and dicts keeps data -/
theorem Dq.keep (kl : ∀ a xs, H a = some (.lst xs) → H' a = some (.lst xs)) (kt : ∀ a xs, SqT K H a xs → SqT K H' a xs) (kd : ∀ a kvs, H a = some (.dK kvs) → H' a = some (.dK kvs)) : ∀ (d : PyData) (v : V), Dq K H v d → Dq K H' v d
  | .none, _, h => by cases h; exact .non
  | .bool b, _, h => by cases h; exact .bl b
  | .int i, _, h => by cases h; exact .int i
  | .str x, _, h => by cases h; exact .str x
  | .list ds, _, h => by
    cases h with
    | lst h0 h1 h2 => exact .lst h0 (kl _ _ h1) (DqAll.keep kl kt kd ds _ h2)
  | .tuple ds, _, h => by
    cases h with
    | tup h1 h2 => exact .tup (kt _ _ h1) (DqAll.keep kl kt kd ds _ h2)
  | .dict [], _, h => by
    cases h with
    | emp h1 => exact .emp (kd _ _ h1)
  | .dict [(.int i, d)], _, h => by
    cases h with
    | one h1 h2 => exact .one (kd _ _ h1) (Dq.keep kl kt kd d _ h2)
  | .dict ((.none, d) :: r), _, h => by cases h
  | .dict ((.bool _, d) :: r), _, h => by cases h
  | .dict ((.str _, d) :: r), _, h => by cases h
  | .dict ((.list _, d) :: r), _, h => by cases h
  | .dict ((.tuple _, d) :: r), _, h => by cases h
  | .dict ((.dict _, d) :: r), _, h => by cases h
  | .dict ((.int _, d) :: _ :: _), _, h => by cases h
theorem DqAll.keep (kl : ∀ a xs, H a = some (.lst xs) → H' a = some (.lst xs)) (kt : ∀ a xs, SqT K H a xs → SqT K H' a xs) (kd : ∀ a kvs, H a = some (.dK kvs) → H' a = some (.dK kvs)) : ∀ (ds : List PyData) (vs : List V), DqAll K H vs ds → DqAll K H' vs ds
  | [], _, h => by cases h; exact .nil
  | d :: ds, _, h => by
    cases h with
    | cons h1 h2 => exact .cons (Dq.keep kl kt kd d _ h1) (DqAll.keep kl kt kd ds _ h2)
end
theorem Dq.same {v : V} {d : PyData} (h : Dq K H v d) (s : Same H H') : Dq K H' v d := h.keep (fun a xs e => s _ _ e) (fun a xs e => seT s e) (fun a kvs e => s _ _ e)
theorem DqAll.same {vs : List V} {ds : List PyData} (h : DqAll K H vs ds) (s : Same H H') : DqAll K H' vs ds := DqAll.keep (fun a xs e => s _ _ e) (fun a xs e => seT s e) (fun a kvs e => s _ _ e) _ _ h
theorem Dq.sameX {P : Addr} {q : Str} {v : V} {d : PyData} (h : Dq K H v d) (t : LT H P q) (s : SameX P H H') : Dq K H' v d := by
  have ne : ∀ a u, H a = some u → (∀ φ, u ≠ .ext φ) → a ≠ P := fun a u z n y => by
    obtain ⟨cs, e, _⟩ := t
    rw [y, e] at z
    exact n _ (Option.some.inj z).symm
  exact h.keep (fun a xs e => s _ _ (ne _ _ e fun φ z => nomatch z) e) (fun a xs e => seX t s e) (fun a kvs e => s _ _ (ne _ _ e fun φ z => nomatch z) e)
theorem Dq.step {d0 l : Addr} {v : V} {d : PyData} (h : Dq K H v d) (S : Step d0 l H H') (D : Deck H d0 l) (hl : ∀ a xs, H a = some (.lst xs) → a ≠ d0 ∧ a ≠ l → H' a = some (.lst xs)) : True := trivial
end
section
variable {X : Cx} {pins : List (Addr × Obj)} {σ : L2.St} {H : Hp} {s : Shared}
mutual
theorem Dq.reads (I : Inv X pins σ H s) : ∀ (d : PyData) (v : V) (u : Value), Dq X.K H v d → RelV v u → ∃ as, Reads s.heap u d as ∧ sysModules ∉ as
  | .none, _, _, h, r => by
    cases h
    cases r
    exact ⟨_, Reads.none, by simp⟩
  | .bool b, _, _, h, r => by
    cases h
    cases r
    exact ⟨_, Reads.bool b, by simp⟩
  | .int i, _, _, h, r => by
    cases h
    obtain ⟨t, rfl⟩ := r
    exact ⟨_, Reads.int i t, by simp⟩
  | .str x, _, _, h, r => by
    cases h
    obtain ⟨t, rfl⟩ := r
    exact ⟨_, Reads.str x t, by simp⟩
  | .list ds, _, _, h, r => by
    cases h with
    | lst h0 hs ha =>
      cases r
      obtain ⟨its, rv, ⟨o, n, ho, hc, _, hd⟩, _⟩ := I.list (.inl (.inl hs))
      obtain ⟨as, hr, hn⟩ := Dq.readsAll I ds _ its ha rv
      refine ⟨_, Reads.list ho hc hd hr, fun z => ?_⟩
      rcases List.mem_cons.mp z with z | z
      · exact h0 z.symm
      · exact hn z
  | .tuple ds, _, _, h, r => by
    cases h with
    | tup hs ha =>
      cases r
      obtain ⟨its, rv, ⟨o, ho, hc, n, hd⟩, _⟩ := I.tuple hs
      obtain ⟨as, hr, hn⟩ := Dq.readsAll I ds _ its ha rv
      exact ⟨_, Reads.tuple ho hc hd hr, hn⟩
  | .dict [], _, _, h, r => by
    cases h with
    | emp e =>
      cases r
      obtain ⟨_, hsm, vs, rel, o, es, ep, h1, h2, h3, h4, h5, h6⟩ := dk_of I.hok e
      cases rel
      cases h5' : es.toList with
      | nil =>
        refine ⟨_, Reads.dict (as := []) (bs := []) h1 h2.1 h3 (by rw [h5']; exact .nil) (by rw [h5']; exact .nil), fun z => ?_⟩
        rcases List.mem_cons.mp z with z | z
        · rw [← z] at hsm
          simp at hsm
        · simp at z
      | cons _ _ => rw [h5'] at h5; cases h5
  | .dict [(.int i, d)], _, _, h, r => by
    cases h with
    | one e hd =>
      cases r
      obtain ⟨_, hsm, vs, rel, o, es, ep, h1, h2, h3, h4, h5, h6⟩ := dk_of I.hok e
      cases rel with
      | cons hk rest =>
        cases rest
        rename_i q
        obtain ⟨hk1, hk2⟩ := hk
        cases h5' : es.toList with
        | nil => rw [h5'] at h5; cases h5
        | cons e0 r0 =>
          rw [h5'] at h5
          cases h5 with
          | cons c1 c2 c3 =>
            cases c3
            obtain ⟨as, hr, hn⟩ := Dq.reads I d _ _ hd hk2
            have c1 : keyIs q.1 e0.key = true := c1
            rw [← hk1] at c1
            rcases keyIs_shape c1 with ⟨j, t, z1, z2⟩ | ⟨x, t, z1, z2⟩
            · have z1 : (Sum.inl i : Key) = Sum.inl j := z1
              cases z1
              refine ⟨_, Reads.dict (as := [] ++ []) (bs := as ++ []) h1 h2.1 h3 (by rw [h5']; show ReadsAll _ [e0.key] [.int i] _; rw [z2]; exact .cons (.int _ _) .nil) (by rw [h5']; show ReadsAll _ [e0.val] [d] _; rw [c2]; exact .cons hr .nil), fun z => ?_⟩
              rcases List.mem_cons.mp z with z | z
              · rw [← z] at hsm
                simp at hsm
              · simp at z
                exact hn z
            · cases z1
  | .dict ((.none, d) :: r), _, _, h, _ => by cases h
  | .dict ((.bool _, d) :: r), _, _, h, _ => by cases h
  | .dict ((.str _, d) :: r), _, _, h, _ => by cases h
  | .dict ((.list _, d) :: r), _, _, h, _ => by cases h
  | .dict ((.tuple _, d) :: r), _, _, h, _ => by cases h
  | .dict ((.dict _, d) :: r), _, _, h, _ => by cases h
  | .dict ((.int _, d) :: _ :: _), _, _, h, _ => by cases h
theorem Dq.readsAll (I : Inv X pins σ H s) : ∀ (ds : List PyData) (vs : List V) (us : List Value), DqAll X.K H vs ds → Vals vs us → ∃ as, ReadsAll s.heap us ds as ∧ sysModules ∉ as
  | [], _, _, h, r => by
    cases h
    cases r
    exact ⟨_, ReadsAll.nil, by simp⟩
  | d :: ds, _, _, h, r => by
    cases h with
    | cons h1 h2 =>
      cases r with
      | cons r1 r2 =>
        obtain ⟨as, q1, n1⟩ := Dq.reads I d _ _ h1 r1
        obtain ⟨bs, q2, n2⟩ := Dq.readsAll I ds _ _ h2 r2
        exact ⟨_, ReadsAll.cons q1 q2, fun z => (List.mem_append.mp z).elim n1 n2⟩
end
end
end Cl

set_option maxHeartbeats 0
namespace Cl
open PySem PySem.Spec PyProof.Rows L2
open PySem.SeqAt
theorem sub_str_dict : isSubtype (.type "str") (.type "dict") = pure false := by rw [isSubtype_type]; kernel_rfl
theorem dict_eq_declines_str (l : Addr) (es : Array DictEntry) (n : Nat) (b : Str) (u : Tok) :
    PySem.Meets (Builtin.«dict.__eq__» ⟨[.ref l, .str b u], []⟩) (fun _ R s => s.heap.get? l = some { cls := .type "dict", dict := none, data := .dict es n, slots := #[] } ∧ R (.ok (.ret .notImplemented)) s) :=
  .of_wp fun prog w A R s h => by
    obtain ⟨hp, g, d, tk, os⟩ := s
    obtain ⟨hl, h⟩ := h
    have f1 := sub_str_dict
    wp_walk using wpAny_loadPart' hl, wpAny_load hl
    exact ⟨_, rfl, h⟩
theorem str_eq_declines_dict (b : Str) (u : Tok) (l : Addr) (es : Array DictEntry) (n : Nat) :
    PySem.Meets (Builtin.«str.__eq__» ⟨[.str b u, .ref l], []⟩) (fun _ R s => s.heap.get? l = some { cls := .type "dict", dict := none, data := .dict es n, slots := #[] } ∧ R (.ok (.ret .notImplemented)) s) :=
  .of_wp fun prog w A R s h => by
    obtain ⟨hp, g, d, tk, os⟩ := s
    obtain ⟨hl, h⟩ := h
    wp_walk using wpAny_loadPart' hl, wpAny_load hl
    exact ⟨_, rfl, h⟩
theorem rc_dict_str {A : Around} {s : Shared} {l : Addr} {es : Array DictEntry} {n : Nat} (b : Str) (u : Tok) (ho : s.heap.get? l = some { cls := .type "dict", dict := none, data := .dict es n, slots := #[] }) (hu : A.units < cLine) : SeqAt.RcAt A s (.ref l) (.str b u) false := fun prog w E Q h =>
  SeqAt.rc_eq_decline_or (k := false) ⟨_, ho, rfl⟩ (typeIs_str s b u) (by decide) sub_str_dict F.slot_dict_eq F.slot_str_eq_refl
    (fun _ hq => call_meets F.slot_dict_eq ⟨_, ho, rfl⟩ F.entry_dict_eq (F.args_dict_eq_2 _ _) (dict_eq_declines_str l es n b u) ⟨ho, hq⟩)
    (fun _ hq => call_meets F.slot_str_eq_refl (typeIs_str s b u) F.entry_str_eq (F.args_str_eq_2 _ _) (str_eq_declines_dict b u l es n) ⟨ho, hq⟩)
    (fun _ hq => wpAny_of_eq (rfl : isSame (.ref l) (.str b u) = pure false) hq) (.inr hu) h
theorem eq_dict_str {A : Around} {s : Shared} {l : Addr} {es : Array DictEntry} {n : Nat} (b : Str) (u : Tok) (ho : s.heap.get? l = some { cls := .type "dict", dict := none, data := .dict es n, slots := #[] }) (hu : A.units < cLine) : SeqAt.EqAt A s (.ref l) (.str b u) false := fun prog w E Q h => by
  unfold eqBool
  refine wpAny_holding ?_
  refine wpAny_ite_split (fun hab => absurd (eq_of_beq hab) nofun) (fun _ => ?_)
  exact wpAny_bind (rc_dict_str b u ho hu prog w E _ (wpAny_truthy_bool h))
/-- the first of a datum's parts is the word -/
def firstIs (w : Str) : List PyData → Bool
  | [.str s] => s == w
  | _ => false
section
variable {X : Cx}
/-- what is compared with a text -/
theorem dq_eq_str {pins : List (Addr × Obj)} {σ : L2.St} {H : Hp} {s : Shared} {A : Around} {v : V} {d : PyData} {u : Value} {x : Str} {t : Tok} (I : Inv X pins σ H s) (h : Dq X.K H v d) (r : RelV v u) (hu : A.units < cLine) :
    SeqAt.EqAt A s u (.str x t) (firstIs x [d]) := by
  cases h with
  | non => cases r; exact SeqAt.EqAt.none_str x t
  | bl b => cases r; exact SeqAt.EqAt.bool_str b x t
  | int i => obtain ⟨t', rfl⟩ := r; exact SeqAt.EqAt.int_str i t' x t
  | str y => obtain ⟨t', rfl⟩ := r; exact SeqAt.EqAt.str_str y t' x t
  | lst h0 h1 h2 =>
    cases r
    obtain ⟨its, rv, pl, _⟩ := I.list (.inl (.inl h1))
    exact SeqAt.EqAt.list_str x t pl.isList hu
  | tup h1 h2 =>
    cases r
    obtain ⟨its, rv, tp, _⟩ := I.tuple h1
    exact SeqAt.EqAt.tuple_str x t tp hu
  | emp e =>
    cases r
    obtain ⟨_, _, vs, _, ⟨cls, dd, data, sl⟩, es, ep, h1, ⟨c1, c2, c3⟩, h3, _⟩ := dk_of I.hok e
    simp only at c1 c2 c3 h3
    subst c1 c2 c3 h3
    exact eq_dict_str x t h1 hu
  | one e _ =>
    cases r
    obtain ⟨_, _, vs, _, ⟨cls, dd, data, sl⟩, es, ep, h1, ⟨c1, c2, c3⟩, h3, _⟩ := dk_of I.hok e
    simp only at c1 c2 c3 h3
    subst c1 c2 c3 h3
    exact eq_dict_str x t h1 hu
/-- thing[:1] == (word,) -/
def rEqFirst (K : PySem.W.Frag) : R2 := fun x y H Q => ∃ (a b : Addr) (xs : List V) (ds : List PyData) (w : Str), x = .ref a ∧ y = .ref b ∧ SqT K H a xs ∧ DqAll K H xs ds ∧ xs.length ≤ 1 ∧ SqT K H b [.str w] ∧ Q (.bl (firstIs w ds)) H
theorem op_eqFirst (hu : X.A.units + 64 < cLine) : OpR X (compareOp .Eq) (rEqFirst X.K) := by
  intro pins s σ H x y v u Q I rx ry h
  obtain ⟨a, b, xs, ds, w, rfl, rfl, ha, hd, hl, hb, q⟩ := h
  cases rx
  cases ry
  obtain ⟨its, rv, ta, _⟩ := I.tuple ha
  obtain ⟨itb, rb, tb, _⟩ := I.tuple hb
  cases rb with
  | cons r1 r2 =>
    cases r2
    obtain ⟨t, rfl⟩ := r1
    cases hd with
    | nil =>
      cases rv
      refine SeqAt.eq_tupleAt (e := fun _ => true) ta tb (by omega) (fun j h1 h2 => absurd h1 (by simp)) ⟨.bl _, H, I, rfl, ?_⟩
      exact q
    | @cons v0 vs d0 ds0 hd0 hds =>
      cases hds with
      | cons _ _ => simp at hl
      | nil =>
        cases rv with
        | cons r1 r2 =>
          cases r2
          rename_i u0
          have key := dq_eq_str (A := X.A.in1) (x := w) (t := t) I hd0 r1 (by show X.A.units + 1 < _; omega)
          refine SeqAt.eq_tupleAt (e := fun _ => firstIs w [d0]) ta tb (by omega) (fun j h1 h2 => ?_) ⟨.bl _, H, I, rfl, ?_⟩
          · have hj : j = 0 := by simp at h1; omega
            subst hj
            exact key
          · have e : ((List.range (min #[u0].size #[Value.str w t].size)).all (fun _ => firstIs w [d0]) && #[u0].size == #[Value.str w t].size) = firstIs w [d0] := by
              show ((List.range 1).all (fun _ => firstIs w [d0]) && true) = _
              simp [List.range, List.range.loop]
            rw [e]
            exact q
/-- repr of such data -/
def rReprQ (K : PySem.W.Frag) : List V → Hp → VK → Prop := fun xs H Q => ∃ v d, xs = [v] ∧ Dq K H v d ∧ d.showable = true ∧ d.depth ≤ 60 ∧ d.shown.length ≤ sizeLine ∧ Q (.str d.shown) H
theorem call_reprQ (hg : X.A.guards = some []) (hu : X.A.units + 64 < cLine) : CallR X (.builtin "repr") (rReprQ X.K) := by
  intro pins s σ H xs us Q I r h
  obtain ⟨v, d, rfl, hd, hs, hdp, hl, q⟩ := h
  obtain ⟨u, rfl, ru⟩ := vals1 r
  obtain ⟨as, rd, hn⟩ := Dq.reads I d v u hd ru
  have fin : ∀ {a : Addr}, u = .ref a → wpAny (model X.prog X.w) X.A (call (.builtin "repr") [u]) (EP X pins σ Q) X.xe s := fun {a} e => by
    subst e
    exact repr_of_reads' rd hs (fun _ => hn) hg (by omega) (fun _ _ z => z) (fun h' u tk hk => ⟨.str _, H, I.kept hk, ⟨_, rfl⟩, q⟩) hl
  cases hd with
  | non => cases ru; exact PySem.P.repr_of_none ⟨.str _, H, I.tok _, ⟨_, rfl⟩, q⟩
  | bl b => cases ru; exact PySem.P.repr_of_bool ⟨.str _, H, I.tok _, ⟨_, rfl⟩, q⟩
  | int i => obtain ⟨t, rfl⟩ := ru; exact PySem.P.repr_of_int (by simpa [PyData.showable] using hs) ⟨.str _, H, I.tok _, ⟨_, rfl⟩, q⟩
  | str x => obtain ⟨t, rfl⟩ := ru; exact PySem.P.repr_of_str ⟨.str _, H, I.tok _, ⟨_, rfl⟩, q⟩ (by simpa [PyData.shown] using hl)
  | lst _ _ _ => exact fin ru
  | tup _ _ => exact fin ru
  | emp _ => exact fin ru
  | one _ _ => exact fin ru
/-! ### lists that are no module table -/
def NewM (H : Hp) (o : HO) (Q : VK) : Prop := ∀ p H', p ≠ sysModules → H p = none → Same H H' → H' p = some o → Q (.ref p) H'
def tLstM (t : TA) : TE := fun σ H Q => t σ H fun xs H1 => xs.length ≤ sizeLine ∧ NewM H1 (.lst xs) Q
theorem lstM {es : List Expr} {t : TA} {pos : Pos} (h : PA X es t) : PE X (.List es pos) (tLstM t) := by
  constructor
  intro pins s σ H Q I hq
  refine wpAny_List_spliced ?_
  refine thn (h.run pos pins s σ H _ I hq) fun us s1 ⟨xs, H1, I1, r, z, q⟩ => ⟨by rw [← r.length]; exact z, ?_⟩
  have hn := I1.hok.fresh (Nat.le_refl s1.heap.objs.size)
  refine ⟨.ref s1.heap.objs.size, _, I1.laid (t' := s1.toks) (o := .lst xs) (fun b u e => Heap.get?_push_of_some _ e) (Nat.le_refl _) ?_, rfl,
    q _ _ (Nat.ne_of_gt I1.big) hn (same_new hn) upd_same⟩
  exact ⟨z, us, 0, r, Heap.get?_push_size _ rfl⟩
theorem call_listM : CallR X (.type "list") (fun xs H Q => ∃ p ys, xs = [.ref p] ∧ SqT X.K H p ys ∧ NewM H (.lst ys) Q) := by
  intro pins s σ H xs us Q I r h
  obtain ⟨p, ys, rfl, hq, q⟩ := h
  obtain ⟨u, rfl, rx⟩ := vals1 r
  cases rx
  have hn := I.hok.fresh (Nat.le_refl s.heap.objs.size)
  have fin : ∀ (its : List Value), Vals ys its → ys.length ≤ sizeLine → ∀ (h' : Heap) (c' : Nat), (∀ b o', s.heap.get? b = some o' → h'.get? b = some o') →
      h'.get? s.heap.objs.size = some { cls := .type "list", dict := none, data := .seq its.toArray c', slots := #[] } → EP X pins σ Q (.ref s.heap.objs.size) { s with heap := h' } := fun its r' hz h' c' kp e =>
    ⟨.ref s.heap.objs.size, _, I.laid (t' := s.toks) kp (Nat.le_refl _) (show ObjOk X.prog X.w _ h' _ (.lst ys) from ⟨hz, its, c', r', e⟩), rfl, q _ _ (Nat.ne_of_gt I.big) hn (same_new hn) upd_same⟩
  obtain ⟨its, r', tp, hz⟩ := I.tuple hq
  have hlen := r'.length
  obtain ⟨o, ho, hc, n, hd⟩ := tp
  exact call_list_seq p (.inr rfl) ho hc hd (fun h' c' kp e => fin its r' hz h' c' kp e) (by simp only [List.size_toArray] <;> omega)
/-- xs != [] -/
def rNeLNil (K : PySem.W.Frag) : R2 := fun x y H Q => ∃ a b xs, x = .ref a ∧ y = .ref b ∧ SqL K H a xs ∧ SqL K H b [] ∧ Q (.bl (!xs.isEmpty)) H
theorem op_neLNil (hu : X.A.units + 64 < cLine) : OpR X (compareOp .NotEq) (rNeLNil X.K) := by
  intro pins s σ H x y v u Q I rx ry h
  obtain ⟨a, b, xs, rfl, rfl, ha, hb, q⟩ := h
  cases rx
  cases ry
  obtain ⟨its, rv, p, _⟩ := I.list ha
  obtain ⟨its2, rv2, p2, _⟩ := I.list hb
  cases rv2
  have hl := rv.length
  cases xs with
  | nil =>
    have : its = [] := List.eq_nil_of_length_eq_zero hl.symm
    subst this
    obtain ⟨o, ho, hc, n, hd⟩ := p.isList
    obtain ⟨o2, ho2, hc2, n2, hd2⟩ := p2.isList
    exact SeqAt.compareNe_shaped (Reads.list ho hc hd .nil) (Reads.list ho2 hc2 hd2 .nil) rfl rfl hu ⟨.bl _, H, I, rfl, q⟩
  | cons x xs =>
    cases its with
    | nil => simp at hl
    | cons i its => exact SeqAt.RcNeAt.lists_lengths p.isList p2.isList (by simp) (by omega) X.prog X.w _ _ ⟨.bl _, H, I, rfl, q⟩
end
end Cl

set_option maxHeartbeats 0
namespace Cl
open PySem PySem.Spec PyProof.Rows L2
/-! ### truths in sums -/
def b01 (b : Bool) : Int := if b = true then 1 else 0
section
variable {X : Cx}
theorem op_add_bi : OpR X (binaryOp .Add) (fun x y H Q => ∃ b j, x = .bl b ∧ y = .int j ∧ Q (.int (b01 b + j)) H) := by
  intro pins s σ H x y v u Q I rx ry h
  obtain ⟨b, j, rfl, rfl, q⟩ := h
  cases rx
  obtain ⟨t, rfl⟩ := ry
  exact PySem.IntBool.add_bool_int ⟨.int _, H, I.tok _, ⟨_, rfl⟩, q⟩
theorem op_sub_bi : OpR X (binaryOp .Sub) (fun x y H Q => ∃ b j, x = .bl b ∧ y = .int j ∧ Q (.int (b01 b - j)) H) := by
  intro pins s σ H x y v u Q I rx ry h
  obtain ⟨b, j, rfl, rfl, q⟩ := h
  cases rx
  obtain ⟨t, rfl⟩ := ry
  exact PySem.IntBool.sub_bool_int ⟨.int _, H, I.tok _, ⟨_, rfl⟩, q⟩
theorem op_sub_ib : OpR X (binaryOp .Sub) (fun x y H Q => ∃ j b, x = .int j ∧ y = .bl b ∧ Q (.int (j - b01 b)) H) := by
  intro pins s σ H x y v u Q I rx ry h
  obtain ⟨j, b, rfl, rfl, q⟩ := h
  cases ry
  obtain ⟨t, rfl⟩ := rx
  exact PySem.IntBool.sub_int_bool ⟨.int _, H, I.tok _, ⟨_, rfl⟩, q⟩
theorem op_mul_ib : OpR X (binaryOp .Mult) (fun x y H Q => ∃ j b, x = .int j ∧ y = .bl b ∧ Q (.int (j * b01 b)) H) := by
  intro pins s σ H x y v u Q I rx ry h
  obtain ⟨j, b, rfl, rfl, q⟩ := h
  cases ry
  obtain ⟨t, rfl⟩ := rx
  exact PySem.IntBool.mul_int_bool ⟨.int _, H, I.tok _, ⟨_, rfl⟩, q⟩
theorem op_eq_bi : OpR X (compareOp .Eq) (fun x y H Q => ∃ b j, x = .bl b ∧ y = .int j ∧ Q (.bl (b01 b == j)) H) := by
  intro pins s σ H x y v u Q I rx ry h
  obtain ⟨b, j, rfl, rfl, q⟩ := h
  cases rx
  obtain ⟨t, rfl⟩ := ry
  exact SeqAt.RcAt.bool_int b j t X.prog X.w _ _ ⟨.bl _, H, I, rfl, q⟩
theorem call_str_bool : CallR X (.type "str") (fun xs H Q => ∃ b : Bool, xs = [.bl b] ∧ Q (.str (if b then "True" else "False")) H) := by
  intro pins s σ H xs us Q I r h
  obtain ⟨b, rfl, q⟩ := h
  obtain ⟨u, rfl, r1⟩ := vals1 r
  cases r1
  exact PySem.P.str_of_bool ⟨.str _, H, I.tok _, ⟨_, rfl⟩, q⟩
end
/-! ### bounds of data -/
def Lf (p : Nat) : PyData → Prop
  | .none => True
  | .bool _ => True
  | .int i => i.natAbs < 2 ^ (130 + p)
  | .str x => x.cps.size ≤ 15 * 3 ^ p ∧ ∀ c ∈ x.cps.toList, c < 128
  | _ => False
inductive Gd (p : Nat) : Nat → PyData → Prop
  | lf {n : Nat} {d : PyData} : Lf p d → Gd p n d
  | lst {n : Nat} {ds : List PyData} : ds.length ≤ 5 + p → (∀ x ∈ ds, Gd p n x) → Gd p (n + 1) (.list ds)
  | tup {n : Nat} {ds : List PyData} : ds.length ≤ 5 + p → (∀ x ∈ ds, Gd p n x) → Gd p (n + 1) (.tuple ds)
  | emp {n : Nat} : Gd p (n + 1) (.dict [])
  | one {n : Nat} {i : Int} {x : PyData} : i.natAbs < 2 ^ 130 → Gd p n x → Gd p (n + 1) (.dict [(.int i, x)])
theorem Lf.up {p : Nat} {d : PyData} (h : Lf p d) : Lf (p + 1) d := by
  cases d with
  | int i =>
    have h : i.natAbs < 2 ^ (130 + p) := h
    show i.natAbs < 2 ^ (130 + p + 1)
    rw [Nat.pow_succ]
    omega
  | str x =>
    obtain ⟨h1, h2⟩ := h
    refine ⟨?_, h2⟩
    rw [Nat.pow_succ]
    omega
  | _ => exact h
theorem Gd.up {p n : Nat} {d : PyData} (h : Gd p n d) : Gd (p + 1) n d := by
  induction h with
  | lf h => exact .lf h.up
  | lst h _ ih => exact .lst (by omega) ih
  | tup h _ ih => exact .tup (by omega) ih
  | emp => exact .emp
  | one h _ ih => exact .one h ih
theorem Gd.deep {p n : Nat} {d : PyData} (h : Gd p n d) : Gd p (n + 1) d := by
  induction h with
  | lf h => exact .lf h
  | lst h _ ih => exact .lst h ih
  | tup h _ ih => exact .tup h ih
  | emp => exact .emp
  | one h _ ih => exact .one h ih
def bk : Nat → Nat
  | 0 => 135
  | n + 1 => 7 * (bk n + 1)
/-- data of which repr can be asked, and which the checkers can be asked -/
structure RepOk (d : PyData) : Prop where
  lv : d.leavesShort 200 = true
  sh : d.showable = true
  dp : d.depth ≤ 40
  bk : d.bulk ≤ 60000
theorem alls {m n : Nat} : ∀ {ds : List PyData}, (∀ x ∈ ds, x.leavesShort 200 = true ∧ x.showable = true ∧ x.depth ≤ n ∧ x.bulk ≤ m) →
    PyData.leavesShortAll 200 ds = true ∧ PyData.showableAll ds = true ∧ PyData.depthAll ds ≤ n ∧ PyData.bulkAll ds ≤ ds.length * (m + 1)
  | [], _ => ⟨rfl, rfl, Nat.zero_le _, Nat.zero_le _⟩
  | d :: ds, h => by
    obtain ⟨a1, a2, a3, a4⟩ := h d (List.mem_cons_self ..)
    obtain ⟨b1, b2, b3, b4⟩ := alls fun x hx => h x (List.mem_cons_of_mem _ hx)
    refine ⟨?_, ?_, ?_, ?_⟩
    · simp only [PyData.leavesShortAll, a1, b1, Bool.and_self]
    · simp only [PyData.showableAll, a2, b2, Bool.and_self]
    · simp only [PyData.depthAll]
      omega
    · simp only [PyData.bulkAll, List.length_cons]
      rw [Nat.succ_mul]
      omega
theorem bk_ge (n : Nat) : 135 ≤ bk n := by
  induction n with
  | zero => exact Nat.le_refl _
  | succ n ih => show 135 ≤ 7 * (bk n + 1); omega
theorem Gd.fine {p n : Nat} {d : PyData} (hp : p ≤ 2) (h : Gd p n d) : d.leavesShort 200 = true ∧ d.showable = true ∧ d.depth ≤ n ∧ d.bulk ≤ bk n := by
  induction h with
  | @lf n d h =>
    have hb := bk_ge n
    cases d with
    | none => exact ⟨rfl, rfl, Nat.zero_le _, Nat.zero_le _⟩
    | bool _ => exact ⟨rfl, rfl, Nat.zero_le _, Nat.zero_le _⟩
    | int i =>
      have h : i.natAbs < 2 ^ (130 + p) := h
      have h : okI i := Nat.lt_of_lt_of_le h (Nat.pow_le_pow_right (by omega) (by omega))
      have h1 := h.len
      have h2 := h.log
      refine ⟨?_, ?_, Nat.zero_le _, Nat.zero_le _⟩
      · simp only [PyData.leavesShort, decide_eq_true_iff]
        exact h1
      · simp only [PyData.showable, decide_eq_true_iff]
        omega
    | str x =>
      obtain ⟨h1, h2⟩ := h
      refine ⟨?_, rfl, Nat.zero_le _, ?_⟩
      · simp only [PyData.leavesShort, List.all_eq_true, decide_eq_true_iff]
        intro c hc
        exact Nat.lt_trans (h2 c hc) (by decide)
      · show x.cps.size ≤ bk n
        have : p = 0 ∨ p = 1 ∨ p = 2 := by omega
        rcases this with rfl | rfl | rfl <;> simp at h1 <;> omega
    | list _ => exact h.elim
    | tuple _ => exact h.elim
    | dict _ => exact h.elim
  | @lst n ds hl _ ih =>
    obtain ⟨a1, a2, a3, a4⟩ := alls ih
    refine ⟨a1, a2, Nat.succ_le_succ a3, Nat.le_trans a4 ?_⟩
    show _ ≤ 7 * (bk n + 1)
    exact Nat.mul_le_mul_right _ (by omega)
  | @tup n ds hl _ ih =>
    obtain ⟨a1, a2, a3, a4⟩ := alls ih
    refine ⟨a1, a2, Nat.succ_le_succ a3, Nat.le_trans a4 ?_⟩
    show _ ≤ 7 * (bk n + 1)
    exact Nat.mul_le_mul_right _ (by omega)
  | emp => exact ⟨rfl, rfl, by simp [PyData.depth, PyData.depthKv], by simp [PyData.bulk, PyData.bulkKv]⟩
  | @one n i x hi _ ih =>
    obtain ⟨a1, a2, a3, a4⟩ := ih
    have h : okI i := Nat.lt_of_lt_of_le hi (Nat.pow_le_pow_right (by omega) (by omega))
    have h1 := h.len
    have h2 := h.log
    refine ⟨?_, ?_, ?_, ?_⟩
    · simp only [PyData.leavesShort, PyData.leavesShortKv, a1, Bool.and_true, decide_eq_true_iff]
      exact h1
    · simp only [PyData.showable, PyData.showableKv, a2, Bool.and_true, decide_eq_true_iff]
      omega
    · simp only [PyData.depth, PyData.depthKv]
      omega
    · simp only [PyData.bulk, PyData.bulkKv]
      show _ ≤ 7 * (bk n + 1)
      omega
theorem Gd.rep {p n : Nat} {d : PyData} (hp : p ≤ 2) (hn : n ≤ 3) (h : Gd p n d) : RepOk d := by
  obtain ⟨a1, a2, a3, a4⟩ := h.fine hp
  refine ⟨a1, a2, by omega, Nat.le_trans a4 ?_⟩
  have : n = 0 ∨ n = 1 ∨ n = 2 ∨ n = 3 := by omega
  rcases this with rfl | rfl | rfl | rfl <;> decide
theorem asciiU : ∀ c < 128, ∀ x ∈ Unicode.upperOf c, x < 128 := by decide +kernel
theorem upper_lf {p : Nat} {x : Str} (h : Lf p (.str x)) : Lf (p + 1) (.str (Txt.upper x)) := by
  obtain ⟨h1, h2⟩ := h
  refine ⟨?_, ?_⟩
  · show (placed x fun _ c => Unicode.upperOf c).size ≤ _
    have := placed_le3 x (fun _ c => Unicode.upperOf c) (fun i c => StrLaws.upperOf_le3 c)
    have e : x.length = x.cps.size := rfl
    rw [Nat.pow_succ]
    omega
  · intro c hc
    have hc : c ∈ (placed x fun _ c => Unicode.upperOf c) := Array.mem_toList_iff.mp hc
    unfold placed at hc
    rw [Array.mem_flatten] at hc
    obtain ⟨as, h3, h4⟩ := hc
    rw [Array.mem_mapIdx] at h3
    obtain ⟨i, hi, rfl⟩ := h3
    have h4 : c ∈ Unicode.upperOf x.cps[i] := by simpa using h4
    exact asciiU _ (h2 _ (by simp)) _ h4
theorem int_lf {p : Nat} {i : Int} (hp : p ≤ 1) (h : i.natAbs < 2 ^ (130 + p)) : Lf (p + 1) (.str (Str.ofString (toString i))) := by
  refine ⟨?_, ?_⟩
  · have h : i.natAbs < 10 ^ 40 := Nat.lt_of_lt_of_le h (Nat.le_trans (Nat.pow_le_pow_right (n := 2) (by omega) (show 130 + p ≤ 131 by omega)) (by decide))
    have h1 := int_text_length_le10 (by decide) h
    have e : (Str.ofString (toString i)).length = (Str.ofString (toString i)).cps.size := rfl
    have e2 := PySem.ofString_length (toString i)
    have hk : 45 ≤ 15 * 3 ^ (p + 1) := by
      have : p = 0 ∨ p = 1 := by omega
      rcases this with rfl | rfl <;> decide
    show (Str.ofString (toString i)).cps.size ≤ 15 * 3 ^ (p + 1)
    omega
  · intro c hc
    by_cases h3 : c ≠ 45 ∧ (c < 48 ∨ 57 < c)
    · exact absurd hc (int_text_free' c h3 i)
    · omega
end Cl

/-! The probes of a set's table meet every slot, for every mask one below a power of two. -/
namespace SG
open PySem PySem.Spec L2
def S : Nat → Nat
  | 0 => 0
  | n + 1 => S n * 5 + 1
theorem S_add (a : Nat) : ∀ b, S (a + b) = 5 ^ b * S a + S b
  | 0 => by simp [S]
  | b + 1 => by
    show S (a + b) * 5 + 1 = _
    rw [S_add a b, Nat.pow_succ]
    show _ = 5 ^ b * 5 * S a + (S b * 5 + 1)
    rw [Nat.add_mul, Nat.mul_right_comm]
    omega
theorem pow5 (n : Nat) : ∃ q, 5 ^ n = 4 * q + 1 := by
  induction n with
  | zero => exact ⟨0, rfl⟩
  | succ n ih => obtain ⟨q, e⟩ := ih; exact ⟨5 * q + 1, by rw [Nat.pow_succ, e]; omega⟩
theorem S_pow : ∀ n, ∃ c, S (2 ^ n) = 2 ^ n * (2 * c + 1)
  | 0 => ⟨0, rfl⟩
  | n + 1 => by
    obtain ⟨c, e⟩ := S_pow n
    obtain ⟨q, eq⟩ := pow5 (2 ^ n)
    refine ⟨2 * q * c + q + c, ?_⟩
    rw [show 2 ^ (n + 1) = 2 ^ n + 2 ^ n by rw [Nat.pow_succ]; omega, S_add, e, eq]
    generalize 2 ^ n = p
    have h : ∀ x : Nat, (4 * q + 1) * x + x = 2 * (2 * q + 1) * x := fun x => by
      have : (4 * q + 1) * x + x = (4 * q + 1 + 1) * x := by rw [Nat.add_mul (4 * q + 1) 1 x, Nat.one_mul]
      rw [this]; congr 1; omega
    rw [h]
    have h2 : (p + p) * (2 * (2 * q * c + q + c) + 1) = p * (2 * (2 * (2 * q * c + q + c) + 1)) := by rw [← Nat.two_mul, Nat.mul_comm 2 p, Nat.mul_assoc]
    rw [h2, Nat.mul_comm (2 * (2 * q + 1)), Nat.mul_assoc]
    congr 1
    have h3 : (2 * c + 1) * (2 * (2 * q + 1)) = 2 * ((2 * c + 1) * (2 * q + 1)) := by rw [Nat.mul_left_comm]
    rw [h3]
    congr 1
    rw [Nat.add_mul, Nat.mul_add, Nat.one_mul, Nat.mul_one]
    have h4 : 2 * c * (2 * q) = 2 * (2 * q * c) := by
      rw [Nat.mul_assoc, Nat.mul_comm c]
    omega
theorem S_surj : ∀ n j, ∃ b, b < 2 ^ n ∧ S b % 2 ^ n = j % 2 ^ n
  | 0, j => ⟨0, by decide, by rw [Nat.pow_zero, Nat.mod_one, Nat.mod_one]⟩
  | n + 1, j => by
    obtain ⟨b, hb, e⟩ := S_surj n j
    obtain ⟨c, ec⟩ := S_pow n
    obtain ⟨q, eq⟩ := pow5 b
    have e2 : 2 ^ (n + 1) = 2 * 2 ^ n := by rw [Nat.pow_succ, Nat.mul_comm]
    have pos : 0 < 2 ^ n := Nat.pow_pos (by decide)
    rw [e2]
    have key : ∀ x y p : Nat, 0 < p → x % p = y % p → x % (2 * p) = y % (2 * p) ∨ (x + p) % (2 * p) = y % (2 * p) := by
      intro x y p hp h
      have d1 := Nat.div_add_mod x p
      have d2 := Nat.div_add_mod y p
      have hm : x % p < p := Nat.mod_lt _ hp
      generalize x / p = u at d1
      generalize y / p = v at d2
      generalize x % p = r at d1 h hm
      rw [← h] at d2
      subst d1 d2
      have z : ∀ k, (2 * p * k + r) % (2 * p) = r := fun k => by rw [Nat.mul_add_mod]; exact Nat.mod_eq_of_lt (by omega)
      have z1 : ∀ k, (2 * p * k + (p + r)) % (2 * p) = p + r := fun k => by rw [Nat.mul_add_mod]; exact Nat.mod_eq_of_lt (by omega)
      have ev : ∀ k, p * (2 * k) + r = 2 * p * k + r := fun k => by rw [← Nat.mul_assoc, Nat.mul_comm p 2]
      have od : ∀ k, p * (2 * k + 1) + r = 2 * p * k + (p + r) := fun k => by rw [Nat.mul_add, ← Nat.mul_assoc, Nat.mul_comm p 2, Nat.mul_one, Nat.add_assoc]
      have ep : ∀ k, p * (2 * k) + r + p = 2 * p * k + (p + r) := fun k => by rw [ev]; omega
      have op : ∀ k, p * (2 * k + 1) + r + p = 2 * p * (k + 1) + r := fun k => by rw [od, Nat.mul_add]; omega
      rcases Nat.mod_two_eq_zero_or_one u with hu | hu <;> rcases Nat.mod_two_eq_zero_or_one v with hv | hv
      · obtain ⟨a, rfl⟩ : ∃ a, u = 2 * a := ⟨u / 2, by omega⟩
        obtain ⟨b, rfl⟩ : ∃ a, v = 2 * a := ⟨v / 2, by omega⟩
        left; rw [ev, ev, z, z]
      · obtain ⟨a, rfl⟩ : ∃ a, u = 2 * a := ⟨u / 2, by omega⟩
        obtain ⟨b, rfl⟩ : ∃ a, v = 2 * a + 1 := ⟨v / 2, by omega⟩
        right; rw [ep, od, z1, z1]
      · obtain ⟨a, rfl⟩ : ∃ a, u = 2 * a + 1 := ⟨u / 2, by omega⟩
        obtain ⟨b, rfl⟩ : ∃ a, v = 2 * a := ⟨v / 2, by omega⟩
        right; rw [op, ev, z, z]
      · obtain ⟨a, rfl⟩ : ∃ a, u = 2 * a + 1 := ⟨u / 2, by omega⟩
        obtain ⟨b, rfl⟩ : ∃ a, v = 2 * a + 1 := ⟨v / 2, by omega⟩
        left; rw [od, od, z1, z1]
    rcases key (S b) j (2 ^ n) pos e with h | h
    · exact ⟨b, by omega, h⟩
    · refine ⟨2 ^ n + b, by omega, ?_⟩
      rw [← h, S_add, ec, eq]
      generalize 2 ^ n = p
      have : (4 * q + 1) * (p * (2 * c + 1)) = 2 * p * ((4 * q + 1) * c + 2 * q) + p := by
        rw [Nat.mul_left_comm, Nat.mul_comm 2 p, Nat.mul_assoc]
        have : (4 * q + 1) * (2 * c + 1) = 2 * ((4 * q + 1) * c + 2 * q) + 1 := by
          rw [Nat.mul_add, Nat.mul_left_comm]; omega
        rw [this, Nat.mul_add, Nat.mul_one]
      rw [this, Nat.add_assoc, Nat.mul_add_mod, Nat.add_comm p]
def MaskG (m : Nat) : Prop := ∃ n, 3 ≤ n ∧ n ≤ 13 ∧ m + 1 = 2 ^ n
theorem MaskG.odd {m : Nat} (h : MaskG m) : m % 2 = 1 := by
  obtain ⟨n, h1, h2, e⟩ := h
  obtain ⟨k, rfl⟩ : ∃ k, n = k + 1 := ⟨n - 1, by omega⟩
  rw [Nat.pow_succ] at e
  omega
theorem MaskG.le {m : Nat} (h : MaskG m) : m ≤ 8191 := by
  obtain ⟨n, h1, h2, e⟩ := h
  have : 2 ^ n ≤ 2 ^ 13 := Nat.pow_le_pow_right (by decide) h2
  omega
theorem lcgN_S (m : Nat) : ∀ k, lcgN m k = S k % (m + 1)
  | 0 => by show 0 = 0 % (m + 1); rw [Nat.zero_mod]
  | k + 1 => by
    show (lcgN m k * 5 + 1) % (m + 1) = (S k * 5 + 1) % (m + 1)
    rw [lcgN_S m k, Nat.add_mod, Nat.mod_mul_mod, ← Nat.add_mod]
theorem lcg_allG {m : Nat} (h : MaskG m) {j : Nat} (hj : j ≤ m) : ∃ b, b ≤ m ∧ lcgN m b = j := by
  obtain ⟨n, h1, h2, e⟩ := h
  obtain ⟨b, hb, eb⟩ := S_surj n j
  refine ⟨b, by omega, ?_⟩
  rw [lcgN_S, e, eb]
  exact Nat.mod_eq_of_lt (by omega)
theorem lcg_roundG {m : Nat} (h : MaskG m) : lcgN m (m + 1) = 0 := by
  obtain ⟨n, h1, h2, e⟩ := h
  obtain ⟨c, ec⟩ := S_pow n
  rw [lcgN_S, e, ec, Nat.mul_mod_right]
theorem lcgI_allG {m : Nat} (h : MaskG m) {i j : Nat} (hi : i ≤ m) (hj : j ≤ m) : ∃ k, k ≤ m ∧ lcgI m i k = j := by
  obtain ⟨a, ha, ea⟩ := lcg_allG h hi
  obtain ⟨b, hb, eb⟩ := lcg_allG h hj
  by_cases q : a ≤ b
  · exact ⟨b - a, by omega, by rw [← ea, lcgN_add, ← eb]; congr 1; omega⟩
  · refine ⟨m + 1 + b - a, by omega, ?_⟩
    have e0 : lcgI m 0 b = lcgN m b := by
      have := lcgN_add m 0 b
      rw [Nat.zero_add] at this
      exact this
    rw [← ea, lcgN_add, show a + (m + 1 + b - a) = m + 1 + b by omega, ← lcgN_add, lcg_roundG h, e0, eb]
theorem run_meetsG {m : Nat} (hm : MaskG m) (h : Int) {j : Nat} (hj : j ≤ m) : ∃ n, n ≤ m + 12 ∧ runI m (SetTable.bits h) n = j := by
  obtain ⟨k, hk, e⟩ := lcgI_allG hm (runI_le m (SetTable.bits h) 12) hj
  exact ⟨12 + k, by omega, by rw [runI_tail (bits_lt h), e]⟩
theorem off_le (m : Nat) : ∀ n i b, off m i b n ≤ 10 * n
  | 0, i, b => Nat.le_refl 0
  | n + 1, i, b => by
    show SetTable.runEnd m i - i + 1 + off m (SetTable.leap m i b).1 (SetTable.leap m i b).2 n ≤ _
    have := off_le m n (SetTable.leap m i b).1 (SetTable.leap m i b).2
    have : SetTable.runEnd m i - i ≤ 9 := by unfold SetTable.runEnd; split <;> omega
    omega
theorem nth_offj (m : Nat) (h : Int) (n : Nat) : way m h (off m (SetTable.bits h % (m + 1)) (SetTable.bits h) n) = runI m (SetTable.bits h) n := by
  show (nth m (runAt m (SetTable.bits h % (m + 1)) (SetTable.bits h)) _).j = _
  rw [nth_off, itL_run]
  rfl
theorem nth_meetsG {m : Nat} (hm : MaskG m) (h : Int) {j : Nat} (hj : j ≤ m) : ∃ k, k < 10 * SetTable.turns m ∧ way m h k = j := by
  obtain ⟨n, hn, e⟩ := run_meetsG hm h hj
  refine ⟨_, ?_, (nth_offj m h n).trans e⟩
  have := off_le m n (SetTable.bits h % (m + 1)) (SetTable.bits h)
  unfold SetTable.turns
  omega
theorem way_leG (m : Nat) (h : Int) (k : Nat) : way m h k ≤ m := by
  have hi : SetTable.bits h % (m + 1) ≤ m := Nat.le_of_lt_succ (Nat.mod_lt _ (Nat.succ_pos m))
  have := nth_in (m := m) k (runAt m (SetTable.bits h % (m + 1)) (SetTable.bits h)) (by
    obtain ⟨a, b, c⟩ := runEnd_bd hi
    show SetTable.bits h % (m + 1) + (SetTable.runEnd m (SetTable.bits h % (m + 1)) - SetTable.bits h % (m + 1)) ≤ m
    omega)
  show (nth m (runAt m (SetTable.bits h % (m + 1)) (SetTable.bits h)) k).j ≤ m
  omega
theorem free_findG {m : Nat} (hm : MaskG m) (owner : Array (Option Nat)) (h : Int) {j : Nat} (hj : j ≤ m) (hn : oAt owner j = none) :
    ∃ K, SetTable.layClean.free m owner (SetTable.turns m) (SetTable.bits h % (m + 1)) (SetTable.bits h) = some (way m h K) ∧
      oAt owner (way m h K) = none ∧ ∀ k, k < K → oAt owner (way m h k) ≠ none := by
  obtain ⟨n, hn2, e⟩ := run_meetsG hm h hj
  have e2 := (nth_offj m h n).trans e
  obtain ⟨K, hK, hp, hl⟩ := st_least (p := fun k => oAt owner (way m h k) = none) _ (by show oAt owner (way m h (off m (SetTable.bits h % (m + 1)) (SetTable.bits h) n)) = none; rw [e2]; exact hn)
  refine ⟨K, ?_, hp, hl⟩
  refine free_spec m owner (SetTable.turns m) n _ _ K (by unfold SetTable.turns; omega) hK (fun k hk => ?_) ?_
  · cases q : oAt owner (way m h k) with
    | none => exact absurd q (hl k hk)
    | some _ => rfl
  · show (oAt owner (way m h K)).isNone = true
    rw [hp]; rfl
end SG

/-! A set's table laid anew, and a row put into it, at any mask one below a power of two. -/
namespace SG
open PySem PySem.Spec L2
theorem own_step {m : Nat} (hm : MaskG m) {done : List Int} {owner : Array (Option Nat)} (O : Own m done owner) (hl : done.length ≤ m) (h : Int) :
    ∃ j, SetTable.layClean.free m owner (SetTable.turns m) (SetTable.bits h % (m + 1)) (SetTable.bits h) = some j ∧
      Own m (done ++ [h]) (owner.setIfInBounds j (some done.length)) := by
  obtain ⟨ps, lp, hp⟩ := O.ps
  obtain ⟨j0, hj0, nj0⟩ := st_missing ps (m + 1) (by omega)
  have free0 : oAt owner j0 = none := Classical.byContradiction fun z => nj0 (hp j0 (by omega) z)
  obtain ⟨K, e, hn, hb⟩ := free_findG hm owner h (Nat.le_of_lt_succ hj0) free0
  refine ⟨_, e, ?_⟩
  have hw := way_leG m h K
  have self : oAt (owner.setIfInBounds (way m h K) (some done.length)) (way m h K) = some done.length := oAt_set_self _ (by rw [O.sz]; omega)
  have ne : ∀ {j}, j ≠ way m h K → oAt (owner.setIfInBounds (way m h K) (some done.length)) j = oAt owner j := fun hj => oAt_set_ne _ hj
  have keep : ∀ j, oAt owner j ≠ none → oAt (owner.setIfInBounds (way m h K) (some done.length)) j ≠ none := fun j hj => by
    by_cases q : j = way m h K
    · rw [q, self]; exact nofun
    · rw [ne q]; exact hj
  refine ⟨by rw [Array.size_setIfInBounds]; exact O.sz, fun j k hj hk => ?_, fun k hk => ?_, ⟨ps ++ [way m h K], by simp [lp], fun j hj hq => ?_⟩⟩
  · by_cases q : j = way m h K
    · rw [q, self] at hk
      injection hk with hk
      exact ⟨h, K, by rw [← hk]; simp, q.symm, fun k' hk' => keep _ (hb k' hk')⟩
    · rw [ne q] at hk
      obtain ⟨h', K', e1, e2, e3⟩ := O.at_ j k hj hk
      exact ⟨h', K', by rw [List.getElem?_append_left (List.getElem?_eq_some_iff.mp e1).1]; exact e1, e2, fun k' hk' => keep _ (e3 k' hk')⟩
  · rw [List.length_append] at hk
    by_cases q : k = done.length
    · exact ⟨way m h K, hw, by rw [self, q]⟩
    · obtain ⟨j, hj, ej⟩ := O.all k (by have : [h].length = 1 := rfl; omega)
      refine ⟨j, hj, ?_⟩
      rw [ne (fun z => by rw [z, hn] at ej; cases ej)]
      exact ej
  · by_cases q : j = way m h K
    · simp [q]
    · rw [ne q] at hq
      exact List.mem_append_left _ (hp j hj hq)
theorem fold_okG {m : Nat} (hm : MaskG m) : ∀ (rest done : List Int) (owner : Array (Option Nat)), Own m done owner → done.length + rest.length ≤ m →
    ∃ owner', List.foldl (stepF m) (some (owner, done.length)) rest = some (owner', (done ++ rest).length) ∧ Own m (done ++ rest) owner'
  | [], done, owner, O, _ => ⟨owner, by simp, by simpa using O⟩
  | h :: rest, done, owner, O, hl => by
    obtain ⟨j, e, O1⟩ := own_step hm O (by simp at hl; omega) h
    obtain ⟨o', e2, O2⟩ := fold_okG hm rest (done ++ [h]) _ O1 (by simp at hl ⊢; omega)
    refine ⟨o', ?_, by simpa using O2⟩
    rw [List.foldl_cons]
    have e3 : stepF m (some (owner, done.length)) h = some (owner.setIfInBounds j (some done.length), (done ++ [h]).length) := by
      show (do let j ← SetTable.layClean.free m owner (SetTable.turns m) (SetTable.bits h % (m + 1)) (SetTable.bits h); pure (owner.setIfInBounds j (some done.length), done.length + 1)) = _
      rw [e]
      simp
    rw [e3, e2]
    simp
theorem layClean_okG {m : Nat} (hm : MaskG m) {hs : Array Int} (hl : hs.size ≤ m) : ∃ owner, SetTable.layClean m hs = some owner ∧ Own m hs.toList owner := by
  obtain ⟨o, e, O⟩ := fold_okG hm hs.toList [] _ (Own.init m) (by simpa using hl)
  refine ⟨o, ?_, by simpa using O⟩
  rw [layClean_eq]
  rw [show (0 : Nat) = ([] : List Int).length from rfl, e]
  rfl
structure TabG (t : SetTable) (hs : List Int) : Prop where
  ris : Ris t.place.toList
  dm : t.dummies = #[]
  sz : t.place.size = hs.length
  mok : MaskG t.mask
  bd : ∀ x ∈ t.place.toList, x ≤ t.mask
  reach : ∀ (i : Nat) (h : Int) (j : Nat), hs[i]? = some h → t.place.toList[i]? = some j →
    ∃ k, way t.mask h k = j ∧ ∀ k', k' < k → way t.mask h k' ∈ t.place.toList
section
variable {t : SetTable} {hs : List Int} (T : TabG t hs)
include T
theorem TabG.first (hl : hs.length ≤ t.mask) (h : Int) : ∃ K, K < 10 * SetTable.turns t.mask ∧ way t.mask h K ∉ t.place.toList ∧ ∀ k, k < K → way t.mask h k ∈ t.place.toList := by
  obtain ⟨j, hj, nj⟩ := st_missing t.place.toList (t.mask + 1) (by rw [Array.length_toList, T.sz]; omega)
  obtain ⟨k, hk, e⟩ := nth_meetsG T.mok h (Nat.le_of_lt_succ hj)
  obtain ⟨K, hK, hp, hl2⟩ := st_least (p := fun k => way t.mask h k ∉ t.place.toList) k (by show way t.mask h k ∉ _; rw [e]; exact nj)
  exact ⟨K, by omega, hp, fun k' hk' => Classical.byContradiction fun z => hl2 k' hk' z⟩
theorem TabG.before {h : Int} {K i j : Nat} (hK : way t.mask h K ∉ t.place.toList) (hi : hs[i]? = some h) (hj : t.place.toList[i]? = some j) :
    ∃ k, k < K ∧ way t.mask h k = j := by
  obtain ⟨k, e, hb⟩ := T.reach i h j hi hj
  refine ⟨k, Classical.byContradiction fun z => ?_, e⟩
  rcases Nat.lt_or_eq_of_le (Nat.le_of_not_lt z) with q | q
  · exact hK (hb K q)
  · rw [q, e] at hK
    exact hK (List.mem_of_getElem? hj)
theorem TabG.below_le (j : Nat) : SetTable.below t.place j ≤ hs.length := by
  have := (below_cut T.ris j).1
  rw [← T.sz]
  exact this
theorem TabG.put {h : Int} {K : Nat} (hK : way t.mask h K ∉ t.place.toList) (hb : ∀ k, k < K → way t.mask h k ∈ t.place.toList) :
    (t.put (way t.mask h K)).2 = SetTable.below t.place (way t.mask h K) ∧ SetTable.below t.place (way t.mask h K) ≤ hs.length ∧
      TabG (t.put (way t.mask h K)).1 (hs.take (SetTable.below t.place (way t.mask h K)) ++ h :: hs.drop (SetTable.below t.place (way t.mask h K))) ∧
      (t.put (way t.mask h K)).1.mask = t.mask ∧ (t.put (way t.mask h K)).1.led = t.led ∧ (t.put (way t.mask h K)).1.plain = t.plain ∧
      (t.put (way t.mask h K)).1.fill = hs.length + 1 := by
  have pl := put_place t (way t.mask h K)
  have pd := put_dm T.dm (way t.mask h K)
  have ble := T.below_le (way t.mask h K)
  have wle := way_leG t.mask h K
  have mm : (t.put (way t.mask h K)).1.mask = t.mask := rfl
  have ris : Ris (t.put (way t.mask h K)).1.place.toList :=
    ris_insert T.ris fun z => hK (List.mem_of_getElem? (by rw [Array.getElem?_toList]; exact z))
  have mem : ∀ x, x ∈ (t.put (way t.mask h K)).1.place.toList ↔ x = way t.mask h K ∨ x ∈ t.place.toList := fun x => by
    rw [pl, (put_perm _ _ _).mem_iff, List.mem_cons]
  have lp : t.place.toList.length = hs.length := by rw [Array.length_toList, T.sz]
  have szz : (t.put (way t.mask h K)).1.place.size = hs.length + 1 := by
    rw [← Array.length_toList, pl, len_ins _ (by rw [lp]; exact ble), lp]
  generalize hp : SetTable.below t.place (way t.mask h K) = p at *
  refine ⟨hp, ble, ⟨ris, pd, by rw [szz, len_ins _ ble], T.mok, fun x hx => ?_, fun i h' j hi hj => ?_⟩, rfl, rfl, rfl, ?_⟩
  · rcases (mem x).mp hx with q | q
    · rw [q]; exact wle
    · exact T.bd x q
  · rw [tins_get _ ble] at hi
    rw [pl, tins_get _ (by rw [lp]; exact ble)] at hj
    rw [mm]
    have old : ∀ i', hs[i']? = some h' → t.place.toList[i']? = some j → ∃ k, way t.mask h' k = j ∧ ∀ k', k' < k → way t.mask h' k' ∈ (t.put (way t.mask h K)).1.place.toList := fun i' a b => by
      obtain ⟨k, e, g⟩ := T.reach i' h' j a b
      exact ⟨k, e, fun k' hk' => (mem _).mpr (.inr (g k' hk'))⟩
    by_cases q : i < p
    · rw [if_pos q] at hi hj
      exact old i hi hj
    · rw [if_neg q] at hi hj
      by_cases q2 : i = p
      · rw [if_pos q2] at hi hj
        injection hi with hi
        injection hj with hj
        subst hi hj
        exact ⟨K, rfl, fun k' hk' => (mem _).mpr (.inr (hb k' hk'))⟩
      · rw [if_neg q2] at hi hj
        exact old (i - 1) hi hj
  · show (t.put (way t.mask h K)).1.place.size + (t.put (way t.mask h K)).1.dummies.size = _
    rw [pd, szz]
    rfl
end
theorem pw_filterMap {f : Nat → Option (Nat × Nat)} (hf : ∀ j x, f j = some x → x.1 = j) : ∀ (l : List Nat), Ris l → Ris ((l.filterMap f).map (·.1)) ∧ ∀ x ∈ (l.filterMap f).map (·.1), x ∈ l
  | [], _ => ⟨.nil, fun _ z => nomatch z⟩
  | a :: l, h => by
    obtain ⟨h1, h2⟩ := List.pairwise_cons.mp h
    obtain ⟨i1, i2⟩ := pw_filterMap hf l h2
    cases q : f a with
    | none => rw [List.filterMap_cons_none q]; exact ⟨i1, fun x hx => List.mem_cons_of_mem _ (i2 x hx)⟩
    | some x =>
      rw [List.filterMap_cons_some q, List.map_cons]
      have e := hf a x q
      refine ⟨List.pairwise_cons.mpr ⟨fun y hy => by rw [e]; exact h1 y (i2 y hy), i1⟩, fun y hy => ?_⟩
      rcases List.mem_cons.mp hy with z | z
      · rw [z, e]; exact List.mem_cons_self
      · exact List.mem_cons_of_mem _ (i2 y z)
theorem ris_live (m : Nat) (owner : Array (Option Nat)) : Ris ((liveOf m owner).map (·.1)) :=
  (pw_filterMap (f := fun j => (owner.getD j none).map fun x => (j, x)) (fun j x e => by
    cases q : owner.getD j none with
    | none => rw [q] at e; cases e
    | some y => rw [q] at e; cases e; rfl) (List.range (m + 1)) List.pairwise_lt_range).1
theorem relaid_okG (t : SetTable) {hs : Array Int} {wanted M : Nat} (eM : SetTable.sizeAbove wanted - 1 = M) (hM : MaskG M) (hl : hs.size ≤ M) :
    ∃ t' order, t.relaid hs wanted = some (t', order) ∧ order.toList.Perm (List.range hs.size) ∧
      TabG t' (order.toList.map fun i => hs.getD i 0) ∧ t'.mask = M ∧ t'.led = t.led ∧ t'.plain = t.plain ∧ t'.dummies = #[] := by
  obtain ⟨owner, e, O⟩ := layClean_okG hM hl
  refine ⟨tabOf t M owner, ((liveOf M owner).map (·.2)).toArray, ?_, ?_, ?_, rfl, rfl, rfl, rfl⟩
  · rw [relaid_eq, eM, e]; rfl
  · have ris := ris_live M owner
    have nd : ((liveOf M owner).map (·.1)).Nodup := List.Pairwise.imp (fun h => Nat.ne_of_lt h) ris
    obtain ⟨ps, lp, hp⟩ := O.ps
    have le1 := nat_nodup_len _ ps nd fun x hx => by
      obtain ⟨⟨j, k⟩, hm, rfl⟩ := List.mem_map.mp hx
      obtain ⟨h1, h2⟩ := (mem_live O.sz).mp hm
      exact hp j h1 (by rw [h2]; exact nofun)
    have all : ∀ k, k < hs.size → k ∈ (liveOf M owner).map (·.2) := fun k hk => by
      obtain ⟨j, hj, ej⟩ := O.all k (by rw [Array.length_toList]; exact hk)
      exact List.mem_map.mpr ⟨(j, k), (mem_live O.sz).mpr ⟨hj, ej⟩, rfl⟩
    have le2 := nat_nodup_len (List.range hs.size) ((liveOf M owner).map (·.2)) List.nodup_range fun x hx => all x (List.mem_range.mp hx)
    rw [List.length_map] at le1 le2
    rw [List.length_range] at le2
    rw [lp, Array.length_toList (xs := hs)] at le1
    exact perm_range _ _ (by show ((liveOf M owner).map (·.2)).length = _; rw [List.length_map]; omega) all
  · refine ⟨ris_live M owner, rfl, by show ((liveOf M owner).map (·.1)).toArray.size = _; simp, hM, fun x hx => ?_, fun i h j hi hj => ?_⟩
    · obtain ⟨⟨j, k⟩, hm, rfl⟩ := List.mem_map.mp hx
      exact ((mem_live O.sz).mp hm).1
    · have hi : (((liveOf M owner).map (·.2)).map fun i => hs.getD i 0)[i]? = some h := hi
      have hj : ((liveOf M owner).map (·.1))[i]? = some j := hj
      rw [List.getElem?_map] at hj
      rw [List.map_map, List.getElem?_map] at hi
      cases q : (liveOf M owner)[i]? with
      | none => rw [q] at hj; cases hj
      | some x =>
        obtain ⟨j', k⟩ := x
        rw [q] at hi hj
        injection hj with hj
        injection hi with hi
        have hj : j' = j := hj
        subst hj
        have hi : hs.getD k 0 = h := hi
        obtain ⟨h1, h2⟩ := (mem_live O.sz).mp (List.mem_of_getElem? q)
        obtain ⟨h', K, e1, e2, e3⟩ := O.at_ j' k h1 h2
        have e4 : h' = h := by
          rw [Array.getElem?_toList] at e1
          rw [← hi, Array.getD_eq_getD_getElem?, e1]
          rfl
        subst e4
        refine ⟨K, e2, fun k' hk' => ?_⟩
        show way M h' k' ∈ (liveOf M owner).map (·.1)
        cases q2 : oAt owner (way M h' k') with
        | none => exact absurd q2 (e3 k' hk')
        | some z => exact List.mem_map.mpr ⟨(_, z), (mem_live O.sz).mpr ⟨way_leG M h' k', q2⟩, rfl⟩
end SG

/-! Sets whose elements are objects of a kind: an element sought, put in, the table laid anew. -/
namespace SG
open PySem PySem.Spec L2
/-- what a set asks of the kind of its elements -/
structure SKind (P : Program) (w : World) (K : Type) [DecidableEq K] where
  is : Heap → K → Addr → Prop
  hash : K → Int
  room : Nat
  keep : ∀ {h h' : Heap} {k : K} {a : Addr}, is h k a → (∀ c o, h.get? c = some o → o.cls = .type "tuple" → h'.get? c = some o) → is h' k a
  pyHash : ∀ {A : Around} {E : Value → Shared → Prop} {s : Shared} {k : K} {a : Addr} {Q : Int → Shared → Prop},
    A.units + room < cLine → is s.heap k a → (∀ tk, Q (hash k) { s with toks := tk }) → wpAny (model P w) A (PySem.pyHash (.ref a)) Q E s
  eqB : ∀ {A : Around} {E : Value → Shared → Prop} {s : Shared} {x y : K} {a b : Addr} {Q : Bool → Shared → Prop},
    A.units + room < cLine → is s.heap x a → is s.heap y b → (∀ tk, Q (decide (x = y)) { s with toks := tk }) → wpAny (model P w) A (eqBool (.ref a) (.ref b)) Q E s
  byVal : ∀ {A : Around} {E : Value → Shared → Prop} {s : Shared} {k : K} {a : Addr} {Q : Bool → Shared → Prop},
    is s.heap k a → Q true s → wpAny (model P w) A (hashByValue 8 (.ref a)) Q E s
  seen : ∀ {A : Around} {E : Value → Shared → Prop} {s : Shared} {k : K} {b : Addr} {Q : Bool → Shared → Prop},
    is s.heap k b → ∀ {ys : List Value}, (∀ y ∈ ys, ∃ k' c, y = .ref c ∧ is s.heap k' c) → Q false s →
    wpAny (model P w) A (searchCouldBeSeen (.ref b) ys) Q E s
section
variable {P : Program} {w : World} {K : Type} [DecidableEq K] (knd : SKind P w K)
def rowsG (L : List (Addr × K)) : List (Int × Value) := L.map fun p => (knd.hash p.2, .ref p.1)
structure SetG (h : Heap) (a : Addr) (L : List (Addr × K)) (es : Array (Int × Value)) (ep : Nat) (t : SetTable) : Prop where
  ob : ∃ o, h.get? a = some o ∧ o.ExactSet ∧ o.data = .set es ep t
  rows : es.toList = rowsG knd L
  tab : TabG t (L.map fun p => knd.hash p.2)
  nd : (L.map (·.2)).Nodup
  tup : ∀ p ∈ L, knd.is h p.2 p.1
  plain : t.plain = true
  led : w.params.followText "set-order" = true ∨ t.led = true
  room : L.length * 5 < t.mask * 3
  few : L.length < 2048
variable {knd}
theorem nth_dummy (m : Nat) (p : SetTable.Probe) (hp : p.dummy = none) : ∀ k, (nth m p k).dummy = none
  | 0 => hp
  | k + 1 => by
    rw [nth_succ]
    have := nth_dummy m p hp k
    unfold adv
    split <;> exact this
section
variable {A : Around} {E : Value → Shared → Prop} {s : Shared} {a : Addr} {L : List (Addr × K)} {es : Array (Int × Value)} {ep : Nat} {t : SetTable}
  (R : SetG knd s.heap a L es ep t)
include R
theorem SetG.size : es.size = L.length := by
  rw [← Array.length_toList, R.rows]; exact List.length_map _
theorem SetG.fits : t.fits es.size = true := by
  have h1 := R.tab.sz
  rw [List.length_map] at h1
  have h2 := R.size
  have h3 := R.room
  unfold SetTable.fits SetTable.fill
  rw [R.tab.dm, h1, h2]
  simp
  omega
theorem SetG.gw : ¬ t.gaveWay = true := by
  have := R.tab.mok.odd
  unfold SetTable.gaveWay
  rw [this]
  decide
theorem SetG.entry {i : Nat} {p : Addr × K} (h : L[i]? = some p) : es[i]? = some (knd.hash p.2, .ref p.1) := by
  rw [← Array.getElem?_toList, R.rows]
  unfold rowsG
  rw [List.getElem?_map, h]
  rfl
theorem SetG.at_place {i j : Nat} (h : t.place.toList[i]? = some j) : ∃ p, L[i]? = some p := by
  have h1 := (List.getElem?_eq_some_iff.mp h).1
  have h2 := R.tab.sz
  rw [List.length_map] at h2
  rw [Array.length_toList, h2] at h1
  exact ⟨L[i], List.getElem?_eq_getElem h1⟩
theorem SetG.toks (tk : Nat) : SetG knd ({ s with toks := tk } : Shared).heap a L es ep t := R
theorem wpAny_state {Q : Array (Int × Value) × Nat × SetTable → Shared → Prop} (q : Q (es, ep, t) s) : wpAny (model P w) A (setState a) Q E s := by
  obtain ⟨o, h1, _, h3⟩ := R.ob
  exact wpAny_setState_of h1 h3 R.fits q
theorem seek_from {x : Addr} {k : K} (hx : knd.is s.heap k x) (hu : A.units + knd.room < cLine) {N : Nat} (hlt : N < 10 * SetTable.turns t.mask)
    (hN : way t.mask (knd.hash k) N ∉ t.place.toList) (hb : ∀ c, c < N → way t.mask (knd.hash k) c ∈ t.place.toList) {Q : SetFound → Shared → Prop}
    (q1 : k ∈ L.map (·.2) → ∀ tk, Q (.there none) { s with toks := tk })
    (q2 : k ∉ L.map (·.2) → ∀ tk, Q (.free (way t.mask (knd.hash k) N) false) { s with toks := tk }) :
    ∀ (f c : Nat) (stand : Option SetTable.Probe) (tk : Nat),
      stand.getD (t.probeStart (knd.hash k)) = nth t.mask (runAt t.mask (SetTable.bits (knd.hash k) % (t.mask + 1)) (SetTable.bits (knd.hash k))) c →
      c ≤ N → N - c < f → (∀ (i : Nat) (p : Addr × K), L[i]? = some p → p.2 = k → ∃ c', c ≤ c' ∧ c' < N ∧ t.place.toList[i]? = some (way t.mask (knd.hash k) c')) →
      wpAny (model P w) A (setSearchFrom a (.ref x) (knd.hash k) true f stand) Q E { s with toks := tk }
  | 0, c, stand, tk, _, _, h, _ => absurd h (Nat.not_lt_zero _)
  | f + 1, c, stand, tk, est, hc, hf, hi => by
    rw [setSearchFrom_succ]
    refine wpAny_bind (wpAny_state (R.toks tk) ?_)
    dsimp only
    rw [if_neg R.gw]
    generalize hst : runAt t.mask (SetTable.bits (knd.hash k) % (t.mask + 1)) (SetTable.bits (knd.hash k)) = st at *
    have wy : ∀ c, way t.mask (knd.hash k) c = (nth t.mask st c).j := fun c => by rw [← hst]
    have sd : st.dummy = none := by rw [← hst]; rfl
    rw [est]
    have hp : ∀ k', nth t.mask (nth t.mask st c) k' = nth t.mask st (c + k') := fun k' => (nth_add t.mask c st k').symm
    have G := go_spec t R.tab.ris R.tab.dm (fun i => (Option.map (fun x => x.fst) es[i]?).getD 0) (knd.hash k) (10 * SetTable.turns t.mask) (N - c) (nth t.mask st c)
      (nth_dummy _ _ sd c) (by omega) (fun k' hk' => by rw [hp, ← wy]; exact hb _ (by omega)) (by rw [hp, ← wy, show c + (N - c) = N by omega]; exact hN)
    have hash_at : ∀ {i : Nat} {p : Addr × K}, L[i]? = some p → (Option.map (fun x => x.fst) es[i]?).getD 0 = knd.hash p.2 := fun h => by rw [R.entry h]; rfl
    show wpAny (model P w) A (match SetTable.probe.go t (fun i => (Option.map (fun x => x.fst) es[i]?).getD 0) (knd.hash k) (10 * SetTable.turns t.mask) (nth t.mask st c) with | some met => _ | _ => _) Q E _
    rcases G with ⟨k', i, hk', pl, hh, hbef, eg⟩ | ⟨hnone, eg⟩
    · rw [eg]
      dsimp only
      rw [hp] at pl
      obtain ⟨p, ep1⟩ := R.at_place pl
      have ent := R.entry ep1
      have mem : p ∈ L := List.mem_of_getElem? ep1
      have rest : wpAny (model P w) A (searchRest a (.ref x) (knd.hash k) true f es t (nth t.mask (nth t.mask st c) k').j i (nth t.mask (nth t.mask st c) (k' + 1))) Q E { s with toks := tk } := by
        unfold searchRest
        rw [ent]
        dsimp only
        refine wpAny_bind (wpAny_holding (knd.eqB hu (R.tup p mem) hx fun tk2 => ?_))
        refine wpAny_bind (wpAny_state (R.toks tk2) ?_)
        dsimp only
        by_cases q : p.2 = k
        · rw [if_pos (by simp [q])]
          exact wpAny_pure (q1 (List.mem_map.mpr ⟨p, mem, q⟩) tk2)
        · rw [if_neg (by simp [q]), sameMem]
          dsimp only
          rw [if_pos rfl, hp, slot_live R.tab.ris pl]
          dsimp only
          rw [ent]
          dsimp only
          refine wpAny_bind (wpAny_isSame_ref_self ?_)
          refine wpAny_bind (wpAny_pure ?_)
          rw [if_pos rfl]
          dsimp only
          rw [if_neg (by simp [q])]
          refine seek_from hx hu hlt hN hb q1 q2 f (c + k' + 1) _ tk2 ?_ (by omega) (by omega) (fun i' p' e1 e2 => ?_)
          · rw [hst]
            show nth t.mask (nth t.mask st c) (k' + 1) = _
            rw [hp]
            rfl
          · obtain ⟨c', g1, g2, g3⟩ := hi i' p' e1 e2
            refine ⟨c', ?_, g2, g3⟩
            rcases Nat.lt_or_ge c' (c + k' + 1) with z | z
            · exfalso
              rcases Nat.lt_or_eq_of_le (Nat.lt_succ_iff.mp z) with z | z
              · refine hbef (c' - c) i' (by omega) ?_ (by rw [hash_at e1, e2])
                rw [hp, show c + (c' - c) = c' by omega, g3, wy]
              · rw [z, wy] at g3
                have h1 := (List.getElem?_eq_some_iff.mp pl)
                have h2 := (List.getElem?_eq_some_iff.mp g3)
                obtain ⟨l1, v1⟩ := h1
                obtain ⟨l2, v2⟩ := h2
                have ei : i = i' := by
                  have pw := List.pairwise_iff_getElem.mp R.tab.ris
                  rcases Nat.lt_trichotomy i i' with z2 | z2 | z2
                  · have := pw i i' l1 l2 z2
                    omega
                  · exact z2
                  · have := pw i' i l2 l1 z2
                    omega
                subst ei
                rw [ep1] at e1
                injection e1 with e1
                subst e1
                exact q e2
            · exact z
      split
      · refine wpAny_bind (knd.seen (s := { s with toks := tk }) hx (fun y hy => ?_) ?_)
        · obtain ⟨e, he, rfl⟩ := List.mem_map.mp hy
          have he := (Array.mem_filter.mp (Array.mem_toList_iff.mp he)).1
          have he := Array.mem_toList_iff.mpr he
          rw [R.rows] at he
          obtain ⟨p', hp', rfl⟩ := List.mem_map.mp he
          exact ⟨p'.2, p'.1, rfl, R.tup p' hp'⟩
        · rw [if_neg (by decide)]
          exact rest
      · exact rest
    · rw [eg]
      dsimp only
      rw [hp, show c + (N - c) = N by omega, ← wy]
      refine wpAny_pure (q2 (fun z => ?_) tk)
      obtain ⟨p, hp2, e⟩ := List.mem_map.mp z
      obtain ⟨i, l, v⟩ := List.mem_iff_getElem.mp hp2
      have hg : L[i]? = some p := by rw [List.getElem?_eq_getElem l, v]
      obtain ⟨c', g1, g2, g3⟩ := hi i p hg e
      refine hnone (c' - c) i (by omega) ?_ (by rw [hash_at hg, e])
      rw [hp, show c + (c' - c) = c' by omega, g3, wy]
theorem seek_at {x : Addr} {k : K} (hx : knd.is s.heap k x) (hu : A.units + knd.room < cLine) {Q : SetFound → Shared → Prop}
    (q1 : k ∈ L.map (·.2) → ∀ tk, Q (.there none) { s with toks := tk })
    (q2 : ∀ N, k ∉ L.map (·.2) → way t.mask (knd.hash k) N ∉ t.place.toList → (∀ c, c < N → way t.mask (knd.hash k) c ∈ t.place.toList) →
      ∀ tk, Q (.free (way t.mask (knd.hash k) N) false) { s with toks := tk }) :
    wpAny (model P w) A (setSearch a (.ref x) (knd.hash k) true) Q E s := by
  have hl : (L.map fun p => knd.hash p.2).length ≤ t.mask := by rw [List.length_map]; have := R.room; omega
  obtain ⟨N, n1, n2, n3⟩ := R.tab.first hl (knd.hash k)
  have ml := R.tab.mok.le
  have fu : N - 0 < 100000 := by unfold SetTable.turns at n1; omega
  unfold setSearch
  generalize (100000 : Nat) = F at fu ⊢
  refine seek_from R hx hu n1 n2 n3 q1 (fun z tk => q2 N z n2 n3 tk) F 0 none s.toks rfl (Nat.zero_le _) fu (fun i p e1 e2 => ?_)
  have h1 : (L.map fun p => knd.hash p.2)[i]? = some (knd.hash k) := by rw [List.getElem?_map, e1, ← e2]; rfl
  have h2 : i < t.place.toList.length := by
    rw [Array.length_toList, R.tab.sz]
    exact (List.getElem?_eq_some_iff.mp h1).1
  obtain ⟨c, g1, g2⟩ := R.tab.before n2 h1 (List.getElem?_eq_getElem h2)
  exact ⟨c, Nat.zero_le _, g1, by rw [List.getElem?_eq_getElem h2, g2]⟩
end
end
end SG

/-! An element put into a set, and the table laid anew. -/
namespace SG
open PySem PySem.Spec L2
theorem go_pow {n : Nat} (hn : n ≤ 8188) : ∀ (f j : Nat), j ≤ 13 → 13 - j < f → ∃ k, j ≤ k ∧ k ≤ 13 ∧ SetTable.sizeAbove.go n f (2 ^ j) = 2 ^ k ∧ n < 2 ^ k
  | 0, j, _, h => absurd h (Nat.not_lt_zero _)
  | f + 1, j, hj, hf => by
    rw [SetTable.sizeAbove.go]
    by_cases q : 2 ^ j ≤ n
    · rw [if_pos q]
      have : j ≠ 13 := fun z => by rw [z] at q; have : (2 : Nat) ^ 13 = 8192 := rfl; omega
      obtain ⟨k, h1, h2, h3, h4⟩ := go_pow hn f (j + 1) (by omega) (by omega)
      exact ⟨k, by omega, h2, by rw [← h3, Nat.pow_succ], h4⟩
    · rw [if_neg q]
      exact ⟨j, Nat.le_refl _, hj, rfl, by omega⟩
theorem above {n : Nat} (hn : n ≤ 8188) : MaskG (SetTable.sizeAbove n - 1) ∧ n < SetTable.sizeAbove n ∧ SetTable.sizeAbove n ≤ 8192 := by
  obtain ⟨k, h1, h2, h3, h4⟩ := go_pow hn 64 3 (by decide) (by decide)
  have h3 : SetTable.sizeAbove n = 2 ^ k := h3
  rw [h3]
  refine ⟨⟨k, h1, h2, by omega⟩, h4, ?_⟩
  have : 2 ^ k ≤ 2 ^ 13 := Nat.pow_le_pow_right (by decide) h2
  omega
theorem range_get {α : Type} : ∀ (L : List α), (List.range L.length).filterMap (fun i => L[i]?) = L
  | [] => rfl
  | a :: L => by
    rw [List.length_cons, List.range_succ_eq_map, List.filterMap_cons]
    have e0 : (a :: L)[0]? = some a := rfl
    rw [e0]
    dsimp only
    rw [List.filterMap_map]
    congr 1
    exact range_get L
section
variable {P : Program} {w : World} {K : Type} [DecidableEq K] {knd : SKind P w K}
theorem order_rowsG (L : List (Addr × K)) (es : Array (Int × Value)) (order : Array Nat) (hr : es.toList = rowsG knd L) (hp : order.toList.Perm (List.range L.length)) :
    ∃ L2, (order.filterMap fun x => es[x]?).toList = rowsG knd L2 ∧ L2.Perm L ∧
      L2.map (fun p => knd.hash p.2) = order.toList.map fun i => (es.map (·.1)).getD i 0 := by
  have ge : ∀ i, es[i]? = (L[i]?).map fun (p : Addr × K) => (knd.hash p.2, Value.ref p.1) := fun i => by
    rw [← Array.getElem?_toList, hr]
    unfold rowsG
    rw [List.getElem?_map]
  refine ⟨order.toList.filterMap fun i => L[i]?, ?_, ?_, ?_⟩
  · rw [Array.toList_filterMap]
    unfold rowsG
    rw [List.map_filterMap]
    congr 1
    funext i
    exact ge i
  · have := hp.filterMap fun i => L[i]?
    rw [range_get] at this
    exact this
  · have : ∀ l : List Nat, (∀ i ∈ l, i < L.length) → (l.filterMap fun i => L[i]?).map (fun p => knd.hash p.2) = l.map fun i => (es.map (·.1)).getD i 0 := by
      intro l
      induction l with
      | nil => intro _; rfl
      | cons i l ih =>
        intro h
        have hi := h i List.mem_cons_self
        rw [List.filterMap_cons_some (b := L[i]) (List.getElem?_eq_getElem hi), List.map_cons, List.map_cons, ih fun j hj => h j (List.mem_cons_of_mem _ hj)]
        congr 1
        rw [Array.getD_eq_getD_getElem?, Array.getElem?_map, ge, List.getElem?_eq_getElem hi]
        rfl
    exact this _ fun i hi => List.mem_range.mp (hp.mem_iff.mp hi)
theorem keep_same {h h' : Heap} {a : Addr} {o : Obj} (ho : h.get? a = some o) (hs : o.cls = .type "set") (sb : Heap.SameBut a h h') {k : K} {b : Addr} (hk : knd.is h k b) : knd.is h' k b :=
  knd.keep hk fun c o' hc ht => by
    rw [sb.2 c fun z => ?_]
    · exact hc
    · subst z
      rw [ho] at hc
      injection hc with hc
      subst hc
      rw [hs] at ht
      injection ht with ht
      exact absurd ht (by decide)
section
variable {A : Around} {E : Value → Shared → Prop} {s : Shared} {a : Addr} {L : List (Addr × K)} {es : Array (Int × Value)} {ep : Nat} {t : SetTable}
theorem relay_atG {o : Obj} (ho : s.heap.get? a = some o) (hx : o.ExactSet) (hd : o.data = .set es ep t) (hr : es.toList = rowsG knd L) (hsz : t.place.size = es.size)
    (hdm : t.dummies = #[]) (hm : es.size ≤ t.mask) (hnd : (L.map (·.2)).Nodup) (ht : ∀ p ∈ L, knd.is s.heap p.2 p.1) (hpl : t.plain = true)
    (hled : w.params.followText "set-order" = true ∨ t.led = true) (hf : L.length < 2048) (h1 : 1 ≤ L.length) {Q : Unit → Shared → Prop}
    (q : ∀ h' L' es' ep' t', Heap.SameBut a s.heap h' → SetG knd h' a L' es' ep' t' → L'.Perm L → Q () { s with heap := h' }) :
    wpAny (model P w) A (setRelay a (SetTable.grown L.length)) Q E s := by
  have eg : SetTable.grown L.length = L.length * 4 := by unfold SetTable.grown; rw [if_neg (by omega)]
  obtain ⟨M1, M2, M3⟩ := above (n := SetTable.grown L.length) (by rw [eg]; omega)
  have len : es.size = L.length := by rw [← Array.length_toList, hr]; exact List.length_map _
  rw [setRelay_eq]
  refine wpAny_bind (wpAny_setState_of ho hd (by unfold SetTable.fits SetTable.fill; rw [hsz, hdm]; simp; exact hm) ?_)
  dsimp only
  rw [if_neg (by rw [sizeLine_eq]; omega)]
  obtain ⟨t', order, e, pm, T, m1, m2, m3, m4⟩ := relaid_okG t (hs := es.map (·.1)) (wanted := SetTable.grown L.length) rfl M1 (by rw [Array.size_map, len]; omega)
  rw [Array.size_map, len] at pm
  obtain ⟨L2, r1, r2, r3⟩ := order_rowsG L es order hr pm
  rw [e]
  dsimp only
  have sz : (order.filterMap fun x => es[x]?).size = es.size := by
    rw [← Array.length_toList, r1, len]
    unfold rowsG
    rw [List.length_map, r2.length_eq]
  rw [if_neg (by rw [sz]; simp)]
  refine wpAny_bind (wpAny_pure ?_)
  dsimp only
  refine wpAny_storeSet_of ho hd ?_ (by rw [sz, len, sizeLine_eq]; omega)
  have sb := Heap.SameBut.update s.heap a (Obj.putSet (order.filterMap fun x => es[x]?) t')
  have hp : Obj.putSet (order.filterMap fun x => es[x]?) t' o = { o with data := .set (order.filterMap fun x => es[x]?) (ep + 1) t' } := by
    obtain ⟨c, d, dt, sl⟩ := o
    have hd : dt = .set es ep t := hd
    subst hd
    rfl
  have hg := Heap.get?_update_self (Obj.putSet (order.filterMap fun x => es[x]?) t') ho (by
    rw [hp]
    rfl)
  refine q _ L2 _ (ep + 1) t' sb ⟨⟨_, hg, ?_, ?_⟩, r1, by rw [r3]; exact T, (r2.map (·.2)).nodup_iff.mpr hnd, fun p hp2 => keep_same ho hx.1 sb (ht p (r2.mem_iff.mp hp2)), m3.trans hpl, ?_, ?_, by rw [r2.length_eq]; exact hf⟩ r2
  · rw [hp]; exact hx
  · rw [hp]
  · rw [m2]; exact hled
  · rw [m1, r2.length_eq]; rw [eg] at M2 M3 ⊢; omega
end
end
end SG

/-! An element put into a set. -/
namespace SG
open PySem PySem.Spec L2
section
variable {P : Program} {w : World} {K : Type} [DecidableEq K] {knd : SKind P w K}
variable {A : Around} {E : Value → Shared → Prop} {s : Shared} {a : Addr} {L : List (Addr × K)} {es : Array (Int × Value)} {ep : Nat} {t : SetTable}
theorem put_obj (o : Obj) (hd : o.data = .set es ep t) (es' : Array (Int × Value)) (t' : SetTable) : Obj.putSet es' t' o = { o with data := .set es' (ep + 1) t' } := by
  obtain ⟨c, d, dt, sl⟩ := o
  have hd : dt = .set es ep t := hd
  subst hd
  rfl
theorem add_atG (R : SetG knd s.heap a L es ep t) {x : Addr} {k : K} (hx : knd.is s.heap k x) (hu : A.units + knd.room < cLine) (hl : L.length + 1 < 2048) {Q : Bool → Shared → Prop}
    (q : ∀ b h' L' es' ep' t' tk, Heap.SameBut a s.heap h' → SetG knd h' a L' es' ep' t' → (k ∈ L.map (·.2) → L' = L) → (k ∉ L.map (·.2) → L'.Perm ((x, k) :: L)) →
      Q b { s with heap := h', toks := tk }) :
    wpAny (model P w) A (setAddHashed a (.ref x) (knd.hash k)) Q E s := by
  unfold setAddHashed
  refine wpAny_holding ?_
  rw [show (100000 : Nat) = 99999 + 1 from rfl, setAddHashedIn_succ]
  generalize (99999 : Nat) = F
  refine wpAny_bind (wpAny_state R ?_)
  dsimp only
  rw [if_neg (by simp [byScan, Value.scannable])]
  refine wpAny_bind (seek_at R hx hu (fun mem tk => ?_) (fun N nm n2 n3 tk => ?_))
  · exact wpAny_pure (q false s.heap L es ep t tk ⟨rfl, fun _ _ => rfl⟩ R (fun _ => rfl) fun z => absurd mem z)
  · dsimp only
    refine wpAny_bind (wpAny_state (R.toks tk) ?_)
    dsimp only
    obtain ⟨p1, p2, T, p4, p5, p6, p7⟩ := R.tab.put n2 n3
    have pdm := put_dm R.tab.dm (way t.mask (knd.hash k) N)
    have szT := T.sz
    obtain ⟨t1, p0⟩ : ∃ z, t.put (way t.mask (knd.hash k) N) = z := ⟨_, rfl⟩
    generalize ht1 : t.put (way t.mask (knd.hash k) N) = tp at *
    obtain ⟨t1, p⟩ := tp
    dsimp only at p1 T p4 p5 p6 p7 pdm szT ⊢
    rw [← p1] at p2 T szT
    clear p0
    have lenH : (L.map fun p => knd.hash p.2).length = L.length := List.length_map _
    rw [lenH] at p2 p7
    rw [if_pos (p6.trans R.plain)]
    refine wpAny_bind (knd.byVal hx ?_)
    rw [if_pos rfl]
    obtain ⟨o, ho, hxo, hd⟩ := R.ob
    have esz := R.size
    have insL : (SetTable.insertAt es p (knd.hash k, Value.ref x)).toList = rowsG knd (L.take p ++ (x, k) :: L.drop p) := by
      rw [SetTable.toList_insertAt, R.rows]
      unfold rowsG
      rw [List.map_append, List.map_cons, List.map_take, List.map_drop]
    have lenL : (L.take p ++ (x, k) :: L.drop p).length = L.length + 1 := len_ins _ p2 _
    have pmL := put_perm L p (x, k)
    have szI : (SetTable.insertAt es p (knd.hash k, Value.ref x)).size = L.length + 1 := by
      rw [← Array.length_toList, insL]
      unfold rowsG
      rw [List.length_map, lenL]
    have hsL : (L.take p ++ (x, k) :: L.drop p).map (fun p => knd.hash p.2) = (L.map fun p => knd.hash p.2).take p ++ knd.hash k :: (L.map fun p => knd.hash p.2).drop p := by
      rw [List.map_append, List.map_cons, List.map_take, List.map_drop]
    refine wpAny_bind (wpAny_storeSet_of ho hd ?_ (by rw [szI, sizeLine_eq]; omega))
    have sb := Heap.SameBut.update s.heap a (Obj.putSet (SetTable.insertAt es p (knd.hash k, Value.ref x)) t1)
    have po := put_obj o hd (SetTable.insertAt es p (knd.hash k, Value.ref x)) t1
    have hg := Heap.get?_update_self (Obj.putSet (SetTable.insertAt es p (knd.hash k, Value.ref x)) t1) ho (by rw [po]; rfl)
    rw [po] at hg
    have ndL : ((L.take p ++ (x, k) :: L.drop p).map (·.2)).Nodup := by
      rw [(pmL.map (·.2)).nodup_iff, List.map_cons]
      exact List.nodup_cons.mpr ⟨nm, R.nd⟩
    have tupL : ∀ q ∈ (L.take p ++ (x, k) :: L.drop p), knd.is (s.heap.update a (Obj.putSet (SetTable.insertAt es p (knd.hash k, Value.ref x)) t1)) q.2 q.1 := fun q hq => by
      refine keep_same ho hxo.1 sb ?_
      rcases List.mem_cons.mp (pmL.mem_iff.mp hq) with z | z
      · rw [z]; exact hx
      · exact R.tup q z
    have led1 : w.params.followText "set-order" = true ∨ t1.led = true := by rw [p5]; exact R.led
    have plain1 : t1.plain = true := p6.trans R.plain
    have szp : t1.place.size = L.length + 1 := by
      have : t1.fill = t1.place.size + t1.dummies.size := rfl
      rw [pdm] at this
      rw [p7] at this
      exact this.symm
    have few : (L.take p ++ (x, k) :: L.drop p).length < 2048 := by rw [lenL]; exact hl
    by_cases full : t1.tooFull = true
    · rw [if_pos (by rw [full]; rfl)]
      rw [esz, ← lenL]
      refine wpAny_bind (relay_atG (s := { s with heap := s.heap.update a (Obj.putSet (SetTable.insertAt es p (knd.hash k, Value.ref x)) t1), toks := tk }) hg ?_ rfl insL (by rw [szp, szI]) pdm ?_ ndL tupL plain1 led1 few (by rw [lenL]; omega) fun h' L' es' ep' t' sb2 R2 pm2 => ?_)
      · exact hxo
      · have := R.room
        rw [szI, p4]; omega
      · refine wpAny_pure (q true h' L' es' ep' t' tk ⟨sb2.1.trans sb.1, fun b hb => (sb2.2 b hb).trans (sb.2 b hb)⟩ R2 (fun z => absurd z nm) fun _ => pm2.trans pmL)
    · rw [if_neg (by rw [Bool.not_eq_true] at full; rw [full]; decide)]
      refine wpAny_pure (q true _ _ _ (ep + 1) t1 tk sb ⟨⟨_, hg, hxo, rfl⟩, insL, by rw [hsL]; exact T, ndL, tupL, plain1, led1, ?_, few⟩ (fun z => absurd z nm) fun _ => pmL)
      have : ¬ (t1.fill * 5 ≥ t1.mask * 3) := fun z => full (decide_eq_true z)
      rw [p7] at this
      rw [lenL]
      omega
theorem SetG.keep {h h' : Heap} (R : SetG knd h a L es ep t) (ha : ∀ o, h.get? a = some o → h'.get? a = some o) (ht : ∀ p ∈ L, knd.is h' p.2 p.1) : SetG knd h' a L es ep t := by
  obtain ⟨⟨o, ho, hx⟩, h2, h3, h4, h5, h6, h7, h8, h9⟩ := R
  exact ⟨⟨o, ha o ho, hx⟩, h2, h3, h4, ht, h6, h7, h8, h9⟩
/-- what a walk over `ks` has put in after `i` of them -/
structure GotG (ks : List (Addr × K)) (i : Nat) (L : List (Addr × K)) : Prop where
  sub : ∀ p ∈ L, p ∈ ks.take i
  all : ∀ p ∈ ks.take i, p.2 ∈ L.map (·.2)
  len : L.length ≤ i
theorem setG_fresh {h : Heap} (hh : h.get? a = some { cls := .type "set", data := .set #[] 0 (SetTable.fresh 0 0 !w.params.followText "set-order") }) :
    SetG knd h a [] #[] 0 (SetTable.fresh 0 0 !w.params.followText "set-order") :=
  ⟨⟨_, hh, ⟨rfl, rfl, rfl⟩, rfl⟩, rfl, ⟨.nil, rfl, rfl, ⟨3, by decide, by decide, rfl⟩, fun _ z => (nomatch z), fun _ _ _ z _ => (nomatch z)⟩, .nil, fun _ z => (nomatch z), rfl, by
    cases q : w.params.followText "set-order"
    · exact .inr rfl
    · exact .inl rfl, (by decide : 0 * 5 < 7 * 3), (by decide : 0 < 2048)⟩
theorem update_loop {I : Addr} {fp wr : List Addr} {G : Array GenState → Array GenState → Prop} {n : Nat} {Pv : Nat → Value → Prop} {St : Nat → Shared → Prop} {R : Result → Shared → Prop}
    (W : WalksS P w A.in1 I fp wr G n Pv St) (S : Addr) (hS : S ∉ fp) (ks : List (Addr × K)) (hn : n = ks.length) (hf : ks.length < 2048)
    (hv : ∀ i v, Pv i v → ∃ p, ks[i]? = some p ∧ v = .ref p.1) (h0 : Heap) (hk : ∀ p ∈ ks, knd.is h0 p.2 p.1) (hS0 : h0.get? S = none) (hw : ∀ b ∈ wr, h0.get? b = none)
    (hu : A.in1.units + knd.room < cLine) :
    ∀ (k i : Nat) (s : Shared), n - i = k → i ≤ n → St i s → (∀ b o, h0.get? b = some o → s.heap.get? b = some o) →
      (∃ L es ep t, SetG knd s.heap S L es ep t ∧ GotG ks i L) →
      (∀ s' L es ep t, Moved (S :: wr) G s s' → SetG knd s'.heap S L es ep t → GotG ks n L → (∀ b o, h0.get? b = some o → s'.heap.get? b = some o) → R (.ok (.ret .none)) s') →
      codeAny (model P w) A (.builtin "set.update.loop" { pos := [.ref S, .ref I] }) R s := by
  have back : ∀ {s' : Shared} {i : Nat} {L : List (Addr × K)}, GotG ks i L → (∀ b o, h0.get? b = some o → s'.heap.get? b = some o) → ∀ p ∈ L, knd.is s'.heap p.2 p.1 :=
    fun GT hk' p hp => knd.keep (hk p (List.mem_of_mem_take (GT.sub p hp))) fun c o e _ => hk' c o e
  have nS : S ∉ wr := fun z => hS (W.sub S z)
  intro k
  induction k with
  | zero =>
    intro i s e hi st k0 ⟨L, es, ep, t, RS, GT⟩ r
    have : i = n := by omega
    subst this
    refine codeAny_builtin PyProof.Rows.F.entry_set_update_loop ?_
    unfold Builtin.«set.update.loop»
    refine wpAny_bind (W.done s _ _ st fun s' mv => ?_)
    dsimp only
    have k1 : ∀ b o, h0.get? b = some o → s'.heap.get? b = some o := fun b o e => mv.heap b o (fun z => by rw [hw b z] at e; cases e) (k0 b o e)
    exact wpAny_pure (r s' L es ep t ⟨fun b o hb => mv.heap b o fun z => hb (List.mem_cons_of_mem _ z), mv.gens, mv.drawn, mv.os, mv.toks⟩
      (RS.keep (fun o ho => mv.heap S o nS ho) (back GT k1)) GT k1)
  | succ k ih =>
    intro i s e hi st k0 ⟨L, es, ep, t, RS, GT⟩ r
    refine codeAny_builtin PyProof.Rows.F.entry_set_update_loop ?_
    unfold Builtin.«set.update.loop»
    refine wpAny_bind (W.item i s _ _ (by omega) st fun v s1 pv st1 mv => ?_)
    dsimp only
    have k1 : ∀ b o, h0.get? b = some o → s1.heap.get? b = some o := fun b o e => mv.heap b o (fun z => by rw [hw b z] at e; cases e) (k0 b o e)
    have R1 := RS.keep (fun o ho => mv.heap S o nS ho) (back GT k1)
    obtain ⟨p, hp, ev⟩ := hv i v pv
    subst ev
    have hpk : p ∈ ks := List.mem_of_getElem? hp
    have hx : knd.is s1.heap p.2 p.1 := knd.keep (hk p hpk) fun c o e _ => k1 c o e
    have lL := GT.len
    have add : wpAny (model P w) (A.under (.builtin "set.update.loop" { pos := [.ref S, .ref I] })) (holding [.ref p.1] (setAdd S (.ref p.1)))
        (fun _ s2 => ∃ h' L' es' ep' t' tk, s2 = { s1 with heap := h', toks := tk } ∧ Heap.SameBut S s1.heap h' ∧ SetG knd h' S L' es' ep' t' ∧ (p.2 ∈ L.map (·.2) → L' = L) ∧ (p.2 ∉ L.map (·.2) → L'.Perm ((p.1, p.2) :: L)))
        (fun _ _ => False) s1 := by
      refine wpAny_holding ?_
      unfold setAdd
      refine wpAny_holding (wpAny_bind (knd.pyHash hu hx fun tk => ?_))
      exact add_atG (s := { s1 with toks := tk }) R1 hx hu (by omega) fun b h' L' es' ep' t' tk sb R2 c1 c2 => ⟨h', L', es', ep', t', tk, rfl, sb, R2, c1, c2⟩
    refine wpAny_bind (wpAny_mono (wpAny_toks add) (fun b s2 hq => ?_) (fun _ _ z => z.2.elim))
    obtain ⟨htk, h', L', es', ep', t', tk, e2, sb, R2, c1, c2⟩ := hq
    subst e2
    have kp : ∀ b o, h0.get? b = some o → h'.get? b = some o := fun b o e => by
      rw [sb.2 b fun z => by rw [z, hS0] at e; cases e]
      exact k1 b o e
    have GT2 : GotG ks (i + 1) L' := by
      have ts : ks.take (i + 1) = ks.take i ++ [p] := by rw [List.take_succ, hp]; rfl
      by_cases q : p.2 ∈ L.map (·.2)
      · have c1 := c1 q
        subst c1
        exact ⟨fun y hy => by rw [ts]; exact List.mem_append_left _ (GT.sub y hy), fun y hy => by
          rw [ts] at hy
          rcases List.mem_append.mp hy with z | z
          · exact GT.all y z
          · rw [List.mem_singleton.mp z]; exact q, by omega⟩
      · have c2 := c2 q
        refine ⟨fun y hy => ?_, fun y hy => ?_, by rw [c2.length_eq, List.length_cons]; omega⟩
        · rw [ts]
          rcases List.mem_cons.mp (c2.mem_iff.mp hy) with z | z
          · rw [z]; exact List.mem_append_right _ (List.mem_singleton.mpr rfl)
          · exact List.mem_append_left _ (GT.sub y z)
        · rw [(c2.map (·.2)).mem_iff, List.map_cons]
          rw [ts] at hy
          rcases List.mem_append.mp hy with z | z
          · exact List.mem_cons_of_mem _ (GT.all y z)
          · rw [List.mem_singleton.mp z]; exact List.mem_cons_self
    refine wpAny_pure ⟨plainId_quiet PyProof.Rows.F.plain_set_update_loop _, ih (i + 1) _ (by omega) (by omega) ?_ kp ⟨L', es', ep', t', R2, GT2⟩ fun s' L2 es2 ep2 t2 mv2 R3 GT3 k3 => r s' L2 es2 ep2 t2 ?_ R3 GT3 k3⟩
    · exact W.frame (i + 1) s1 h' tk st1 htk fun b hb o hbo => by
        rw [sb.2 b fun z => by rw [z] at hb; exact hS hb]
        exact hbo
    · refine ⟨fun b o hb hbo => ?_, W.gtrans _ _ _ mv.gens mv2.gens, mv2.drawn.trans mv.drawn, mv2.os.trans mv.os, Nat.le_trans mv.toks (Nat.le_trans htk mv2.toks)⟩
      refine mv2.heap b o hb ?_
      show h'.get? b = some o
      rw [sb.2 b fun z => hb (by rw [z]; exact List.mem_cons_self)]
      exact mv.heap b o (fun z => hb (List.mem_cons_of_mem _ z)) hbo
end
end SG

/-! set(list) and set(tuple). -/
namespace SG
open PySem PySem.Spec L2
section
variable {P : Program} {w : World} {K : Type} [DecidableEq K] {knd : SKind P w K}
variable {A : Around} {E : Value → Shared → Prop} {s : Shared}
theorem sub_ls : isSubtype (.type "list") (.type "set") = pure false := rfl
theorem sub_lf : isSubtype (.type "list") (.type "frozenset") = pure false := rfl
theorem sub_ts : isSubtype (.type "tuple") (.type "set") = pure false := rfl
theorem sub_tf : isSubtype (.type "tuple") (.type "frozenset") = pure false := rfl
theorem name_set : typeName (.type "set") = pure "set" := rfl
theorem call_setL {l : Addr} {items : Array Value} (ks : List (Addr × K)) {Q : Value → Shared → Prop} (hh : A.handled = none) (hl : s.heap.IsList l items)
    (hi : items.toList = ks.map fun p => .ref p.1) (hk : ∀ p ∈ ks, knd.is s.heap p.2 p.1) (hf : ks.length < 2048) (hu : A.units + 6 + knd.room < cLine)
    (q : ∀ h' tk L es ep t, SetG knd h' s.heap.objs.size L es ep t → GotG ks ks.length L → (∀ b o, s.heap.get? b = some o → h'.get? b = some o) →
      s.toks ≤ tk → Q (.ref s.heap.objs.size) { s with heap := h', toks := tk }) :
    wpAny (model P w) A (call (.type "set") [.ref l]) Q E s := by
  obtain ⟨ob, hob⟩ : ∃ ob : Obj, ob = { cls := .type "set", data := .set #[] 0 (SetTable.fresh 0 0 !w.params.followText "set-order") } := ⟨_, rfl⟩
  refine wpAny_call (codeAny_of_tree ?_)
  refine wpAny_pure ⟨Code.quiet_builtin _ (by simp), ?_⟩
  refine codeAny_builtin (b := Builtin.«type.__call__») PySem.F.entry_type_call ?_
  unfold Builtin.«type.__call__»
  dsimp only
  rw [if_neg (by rw [PySem.F.called_set.notType]; decide), if_neg (by rw [PySem.F.called_set.canCreate]; decide), PySem.F.typeCall_set_1]
  refine wpAny_bind (wpAny_pure ?_)
  obtain ⟨mc, mt, em⟩ := PySem.F.called_set.mro
  rw [em]
  refine wpAny_bind (wpAny_pure ?_)
  rw [if_neg (by simp), PySem.F.called_set.made]
  refine wpAny_bind (wpAny_pure ?_)
  dsimp only
  refine wpAny_bind (wpAny_pure ?_)
  have hg : (s.heap.push ob).get? s.heap.objs.size = some ob := Heap.get?_push_size _ (by rw [hob]; rfl)
  have ty : ({ s with heap := s.heap.push ob } : Shared).TypeIs (.ref s.heap.objs.size) "set" := by
    exact ⟨ob, hg, by rw [hob]⟩
  refine wpAny_bind (wpAny_holding (wpAny_call (code_set_led1 (Q₁ := _) _ ?_)))
  rw [← hob]
  refine wpAny_bind (wpAny_isInstance ty PySem.F.called_set.sub ?_)
  rw [if_neg (by decide)]
  refine wpAny_bind (wpAny_holding (wpAny_callSpecial?_slot ty PySem.F.called_set.init (wpAny_call (codeAny_call_builtin_at (Code.quiet_builtin _ (by simp)) PySem.F.entry_set_init (check_set_init_1 ty ?_)))))
  unfold Builtin.«set.__init__»
  refine wpAny_bind (m := noKeywords _ _) (wpAny_pure ?_)
  dsimp only
  refine wpAny_bind (m := typeNameOfCut _ _) ?_
  unfold typeNameOfCut shownTypeOf
  refine wpAny_bind (wpAny_bind (wpAny_typeOf ty ?_))
  rw [if_neg (by decide)]
  refine wpAny_pure ?_
  show wpAny _ _ (typeName (.type "set")) _ _ _
  rw [name_set]
  refine wpAny_pure (wpAny_bind (m := checkCount _ _ _ _) (wpAny_pure ?_))
  refine wpAny_bind (m := Builtin.Frozenset.addrOf _) (wpAny_pure ?_)
  have R0 : SetG knd (s.heap.push ob) s.heap.objs.size [] #[] 0 (SetTable.fresh 0 0 !w.params.followText "set-order") := setG_fresh (by rw [hg, hob])
  refine wpAny_bind (m := setUsed _) (wpAny_bind (wpAny_state (s := { s with heap := s.heap.push ob }) R0 (wpAny_pure ?_)))
  rw [if_neg (by intro z; cases z)]
  have lty : ({ s with heap := s.heap.push ob } : Shared).TypeIs (.ref l) "list" := by
    obtain ⟨o, h1, h2, _⟩ := hl
    exact ⟨o, Heap.get?_push_of_some _ h1, h2⟩
  refine wpAny_bind (m := Builtin.Frozenset.updateFrom _ _ _) ?_
  unfold Builtin.Frozenset.updateFrom Builtin.Frozenset.isAnySet
  refine wpAny_bind (m := (PySem.isInstance _ _ <||> PySem.isInstance _ _)) (wpAny_bind (wpAny_isInstance lty sub_ls ?_))
  show wpAny _ _ (PySem.isInstance (.ref l) (.type "frozenset")) _ _ _
  refine wpAny_isInstance lty sub_lf ?_
  rw [if_neg (by decide)]
  refine wpAny_bind (wpAny_typeOf lty ?_)
  rw [if_neg (by decide)]
  have hl2 : (s.heap.push ob).IsList l items := by
    obtain ⟨o, h1, h2⟩ := hl
    exact ⟨o, Heap.get?_push_of_some _ h1, h2⟩
  refine wpAny_bind (wpAny_pyIter_list hl2 ?_)
  refine wpAny_bind (wpAny_runValue ?_)
  have none_of : ∀ b, s.heap.objs.size ≤ b → s.heap.get? b = none := fun b hb => by
    cases q : s.heap.get? b with
    | none => rfl
    | some o => exact absurd (Heap.lt_size q) (Nat.not_lt.mpr hb)
  have ll : l < s.heap.objs.size := by
    obtain ⟨o, h1, _⟩ := hl
    exact Heap.lt_size h1
  have sz1 : (s.heap.push ob).objs.size = s.heap.objs.size + 1 := by
    show (s.heap.objs.push ob).size = _
    exact Array.size_push _
  obtain ⟨I, hI⟩ : ∃ I, I = (s.heap.push ob).objs.size := ⟨_, rfl⟩
  obtain ⟨io, hio⟩ : ∃ io : Obj, io = { cls := .type "list_iterator", data := .fields #[.ref l, .int 0 0] } := ⟨_, rfl⟩
  have ll : @LT.lt Nat _ l s.heap.objs.size := ll
  have eI : @Eq Nat I (s.heap.objs.size + 1) := hI.trans sz1
  have W := (Walks.list (prog := P) (w := w) (A := (((A.under (.builtin "type.__call__" { pos := [.type "set", .ref l] })).under (.builtin "set.__init__" { pos := [.ref s.heap.objs.size, .ref l] })).in1)) hh I l (fun z => by have z : @Eq Nat l I := z; omega) items).toS
  have en : items.size = ks.length := by rw [← Array.length_toList, hi, List.length_map]
  have grow : ∀ b o, s.heap.get? b = some o → ((s.heap.push ob).push io).get? b = some o := fun b o e => Heap.get?_push_of_some _ (Heap.get?_push_of_some _ e)
  have gI : ((s.heap.push ob).push io).get? I = some io := by rw [hI]; exact Heap.get?_push_size _ (by rw [hio]; rfl)
  rw [← hio]
  rw [show ({ s with heap := s.heap.push ob } : Shared).heap.objs.size = I from hI.symm]
  refine update_loop W s.heap.objs.size ?_ ks en hf (fun i v hv => ?_) s.heap hk (none_of _ (Nat.le_refl _)) (fun b hb => ?_) ?_ items.size 0 _ rfl (Nat.zero_le _) ?_ grow
    ⟨[], #[], 0, _, R0.keep (fun o e => Heap.get?_push_of_some _ e) (fun _ z => (nomatch z)), ⟨fun _ z => (nomatch z), fun _ z => (nomatch z), Nat.le_refl _⟩⟩ fun s' L es ep t mv RS GT k0 => ?_
  · intro z
    rcases List.mem_cons.mp z with z | z
    · have z : @Eq Nat s.heap.objs.size I := z
      omega
    · have z : @Eq Nat s.heap.objs.size l := List.mem_singleton.mp z
      omega
  · rw [← Array.getElem?_toList, hi, List.getElem?_map] at hv
    cases q2 : ks[i]? with
    | none => rw [q2] at hv; cases hv
    | some p => rw [q2] at hv; injection hv with hv; exact ⟨p, rfl, hv.symm⟩
  · rw [List.mem_singleton.mp hb]
    exact none_of _ (show @LE.le Nat _ s.heap.objs.size I by omega)
  · show A.units + (Code.builtin "type.__call__" { pos := [.type "set", .ref l] }).cUnits + (Code.builtin "set.__init__" { pos := [.ref s.heap.objs.size, .ref l] }).cUnits + 1 + knd.room < cLine
    rw [units_type_call_type]
    have : (Code.builtin "set.__init__" { pos := [.ref s.heap.objs.size, .ref l] }).cUnits = 1 := rfl
    omega
  · refine ⟨⟨io, gI, by rw [hio], by rw [hio]; rfl⟩, ?_⟩
    obtain ⟨o, h1, h2⟩ := hl
    exact ⟨o, grow _ _ h1, h2⟩
  · dsimp only
    rw [en] at GT
    have es' : s' = { s with heap := s'.heap, toks := s'.toks } := by
      have g1 := mv.gens
      have g2 := mv.drawn
      have g3 := mv.os
      cases s'
      cases g1
      cases g2
      cases g3
      rfl
    refine wpAny_pure (wpAny_pure ?_)
    dsimp only
    rw [if_neg (by decide)]
    refine wpAny_pure ?_
    dsimp only
    rw [es']
    exact q s'.heap s'.toks L es ep t RS GT k0 mv.toks
theorem call_setT {l : Addr} {items : Array Value} (ks : List (Addr × K)) {Q : Value → Shared → Prop} (hh : A.handled = none) (hl : s.heap.IsTuple l items)
    (hi : items.toList = ks.map fun p => .ref p.1) (hk : ∀ p ∈ ks, knd.is s.heap p.2 p.1) (hf : ks.length < 2048) (hu : A.units + 6 + knd.room < cLine)
    (q : ∀ h' tk L es ep t, SetG knd h' s.heap.objs.size L es ep t → GotG ks ks.length L → (∀ b o, s.heap.get? b = some o → h'.get? b = some o) →
      s.toks ≤ tk → Q (.ref s.heap.objs.size) { s with heap := h', toks := tk }) :
    wpAny (model P w) A (call (.type "set") [.ref l]) Q E s := by
  obtain ⟨ob, hob⟩ : ∃ ob : Obj, ob = { cls := .type "set", data := .set #[] 0 (SetTable.fresh 0 0 !w.params.followText "set-order") } := ⟨_, rfl⟩
  refine wpAny_call (codeAny_of_tree ?_)
  refine wpAny_pure ⟨Code.quiet_builtin _ (by simp), ?_⟩
  refine codeAny_builtin (b := Builtin.«type.__call__») PySem.F.entry_type_call ?_
  unfold Builtin.«type.__call__»
  dsimp only
  rw [if_neg (by rw [PySem.F.called_set.notType]; decide), if_neg (by rw [PySem.F.called_set.canCreate]; decide), PySem.F.typeCall_set_1]
  refine wpAny_bind (wpAny_pure ?_)
  obtain ⟨mc, mt, em⟩ := PySem.F.called_set.mro
  rw [em]
  refine wpAny_bind (wpAny_pure ?_)
  rw [if_neg (by simp), PySem.F.called_set.made]
  refine wpAny_bind (wpAny_pure ?_)
  dsimp only
  refine wpAny_bind (wpAny_pure ?_)
  have hg : (s.heap.push ob).get? s.heap.objs.size = some ob := Heap.get?_push_size _ (by rw [hob]; rfl)
  have ty : ({ s with heap := s.heap.push ob } : Shared).TypeIs (.ref s.heap.objs.size) "set" := by
    exact ⟨ob, hg, by rw [hob]⟩
  refine wpAny_bind (wpAny_holding (wpAny_call (code_set_led1 (Q₁ := _) _ ?_)))
  rw [← hob]
  refine wpAny_bind (wpAny_isInstance ty PySem.F.called_set.sub ?_)
  rw [if_neg (by decide)]
  refine wpAny_bind (wpAny_holding (wpAny_callSpecial?_slot ty PySem.F.called_set.init (wpAny_call (codeAny_call_builtin_at (Code.quiet_builtin _ (by simp)) PySem.F.entry_set_init (check_set_init_1 ty ?_)))))
  unfold Builtin.«set.__init__»
  refine wpAny_bind (m := noKeywords _ _) (wpAny_pure ?_)
  dsimp only
  refine wpAny_bind (m := typeNameOfCut _ _) ?_
  unfold typeNameOfCut shownTypeOf
  refine wpAny_bind (wpAny_bind (wpAny_typeOf ty ?_))
  rw [if_neg (by decide)]
  refine wpAny_pure ?_
  show wpAny _ _ (typeName (.type "set")) _ _ _
  rw [name_set]
  refine wpAny_pure (wpAny_bind (m := checkCount _ _ _ _) (wpAny_pure ?_))
  refine wpAny_bind (m := Builtin.Frozenset.addrOf _) (wpAny_pure ?_)
  have R0 : SetG knd (s.heap.push ob) s.heap.objs.size [] #[] 0 (SetTable.fresh 0 0 !w.params.followText "set-order") := setG_fresh (by rw [hg, hob])
  refine wpAny_bind (m := setUsed _) (wpAny_bind (wpAny_state (s := { s with heap := s.heap.push ob }) R0 (wpAny_pure ?_)))
  rw [if_neg (by intro z; cases z)]
  have lty : ({ s with heap := s.heap.push ob } : Shared).TypeIs (.ref l) "tuple" := by
    obtain ⟨o, h1, h2, _⟩ := hl
    exact ⟨o, Heap.get?_push_of_some _ h1, h2⟩
  refine wpAny_bind (m := Builtin.Frozenset.updateFrom _ _ _) ?_
  unfold Builtin.Frozenset.updateFrom Builtin.Frozenset.isAnySet
  refine wpAny_bind (m := (PySem.isInstance _ _ <||> PySem.isInstance _ _)) (wpAny_bind (wpAny_isInstance lty sub_ts ?_))
  show wpAny _ _ (PySem.isInstance (.ref l) (.type "frozenset")) _ _ _
  refine wpAny_isInstance lty sub_tf ?_
  rw [if_neg (by decide)]
  refine wpAny_bind (wpAny_typeOf lty ?_)
  rw [if_neg (by decide)]
  have hl2 : (s.heap.push ob).IsTuple l items := by
    obtain ⟨o, h1, h2⟩ := hl
    exact ⟨o, Heap.get?_push_of_some _ h1, h2⟩
  refine wpAny_bind (wpAny_pyIter_tuple hl2 ?_)
  refine wpAny_bind (wpAny_runValue ?_)
  have none_of : ∀ b, s.heap.objs.size ≤ b → s.heap.get? b = none := fun b hb => by
    cases q : s.heap.get? b with
    | none => rfl
    | some o => exact absurd (Heap.lt_size q) (Nat.not_lt.mpr hb)
  have ll : l < s.heap.objs.size := by
    obtain ⟨o, h1, _⟩ := hl
    exact Heap.lt_size h1
  have sz1 : (s.heap.push ob).objs.size = s.heap.objs.size + 1 := by
    show (s.heap.objs.push ob).size = _
    exact Array.size_push _
  obtain ⟨I, hI⟩ : ∃ I, I = (s.heap.push ob).objs.size := ⟨_, rfl⟩
  obtain ⟨io, hio⟩ : ∃ io : Obj, io = { cls := .type "tuple_iterator", data := .fields #[.ref l, .int 0 0] } := ⟨_, rfl⟩
  have ll : @LT.lt Nat _ l s.heap.objs.size := ll
  have eI : @Eq Nat I (s.heap.objs.size + 1) := hI.trans sz1
  have W := (Walks.tuple (prog := P) (w := w) (A := (((A.under (.builtin "type.__call__" { pos := [.type "set", .ref l] })).under (.builtin "set.__init__" { pos := [.ref s.heap.objs.size, .ref l] })).in1)) hh I l (fun z => by have z : @Eq Nat l I := z; omega) items).toS
  have en : items.size = ks.length := by rw [← Array.length_toList, hi, List.length_map]
  have grow : ∀ b o, s.heap.get? b = some o → ((s.heap.push ob).push io).get? b = some o := fun b o e => Heap.get?_push_of_some _ (Heap.get?_push_of_some _ e)
  have gI : ((s.heap.push ob).push io).get? I = some io := by rw [hI]; exact Heap.get?_push_size _ (by rw [hio]; rfl)
  rw [← hio]
  rw [show ({ s with heap := s.heap.push ob } : Shared).heap.objs.size = I from hI.symm]
  refine update_loop W s.heap.objs.size ?_ ks en hf (fun i v hv => ?_) s.heap hk (none_of _ (Nat.le_refl _)) (fun b hb => ?_) ?_ items.size 0 _ rfl (Nat.zero_le _) ?_ grow
    ⟨[], #[], 0, _, R0.keep (fun o e => Heap.get?_push_of_some _ e) (fun _ z => (nomatch z)), ⟨fun _ z => (nomatch z), fun _ z => (nomatch z), Nat.le_refl _⟩⟩ fun s' L es ep t mv RS GT k0 => ?_
  · intro z
    rcases List.mem_cons.mp z with z | z
    · have z : @Eq Nat s.heap.objs.size I := z
      omega
    · have z : @Eq Nat s.heap.objs.size l := List.mem_singleton.mp z
      omega
  · rw [← Array.getElem?_toList, hi, List.getElem?_map] at hv
    cases q2 : ks[i]? with
    | none => rw [q2] at hv; cases hv
    | some p => rw [q2] at hv; injection hv with hv; exact ⟨p, rfl, hv.symm⟩
  · rw [List.mem_singleton.mp hb]
    exact none_of _ (show @LE.le Nat _ s.heap.objs.size I by omega)
  · show A.units + (Code.builtin "type.__call__" { pos := [.type "set", .ref l] }).cUnits + (Code.builtin "set.__init__" { pos := [.ref s.heap.objs.size, .ref l] }).cUnits + 1 + knd.room < cLine
    rw [units_type_call_type]
    have : (Code.builtin "set.__init__" { pos := [.ref s.heap.objs.size, .ref l] }).cUnits = 1 := rfl
    omega
  · refine ⟨⟨io, gI, by rw [hio], by rw [hio]; rfl⟩, ?_⟩
    obtain ⟨o, h1, h2⟩ := hl
    exact ⟨o, grow _ _ h1, h2⟩
  · dsimp only
    rw [en] at GT
    have es' : s' = { s with heap := s'.heap, toks := s'.toks } := by
      have g1 := mv.gens
      have g2 := mv.drawn
      have g3 := mv.os
      cases s'
      cases g1
      cases g2
      cases g3
      rfl
    refine wpAny_pure (wpAny_pure ?_)
    dsimp only
    rw [if_neg (by decide)]
    refine wpAny_pure ?_
    dsimp only
    rw [es']
    exact q s'.heap s'.toks L es ep t RS GT k0 mv.toks
end
end SG

/-! The kind of flat tuples of whole numbers; sets of them as objects of a heap of words. -/
namespace SG
open PySem PySem.Spec L2
section
variable {P : Program} {w : World}
theorem isT_cls {h : Heap} {k : List Int} {a : Addr} (hk : L2.IsT P w h k a) : ∃ o, h.get? a = some o ∧ o.cls = .type "tuple" := by
  obtain ⟨o, its, n, h1, h2, _⟩ := hk
  exact ⟨o, h1, h2⟩
def flatK (P : Program) (w : World) : SKind P w (List Int) where
  is := fun h k a => L2.IsT P w h k a
  hash := thash P w
  room := 0
  keep := fun {h h' k a} hk f => by
    obtain ⟨o, its, n, h1, h2, h3⟩ := hk
    exact ⟨o, its, n, f a o h1 h2, h2, h3⟩
  pyHash := fun {A E s k a Q} hu hk q => wpAny_pyHash_tuple (by omega) hk (q _)
  eqB := fun {A E s x y a b Q} hu hx hy q => wpAny_eqBool_tuple (by omega) hx hy (q s.toks)
  byVal := fun {A E s k a Q} hk q => hashBy_tup hk q
  seen := fun {A E s k b Q} hk ys hy q => seen_tup hk hy q
end
section
variable {P : Program} {w : World} {K : Type} [DecidableEq K] (knd : SKind P w K)
/-- what a heap says of a set alone, its elements aside -/
def S0G (h : Heap) (a : Addr) (L : List (Addr × K)) : Prop := ∃ es ep t,
  (∃ o, h.get? a = some o ∧ o.ExactSet ∧ o.data = .set es ep t) ∧ es.toList = rowsG knd L ∧ TabG t (L.map fun p => knd.hash p.2) ∧ (L.map (·.2)).Nodup ∧ t.plain = true ∧
  (w.params.followText "set-order" = true ∨ t.led = true) ∧ L.length * 5 < t.mask * 3 ∧ L.length < 2048
variable {knd}
theorem S0G.full {h : Heap} {a : Addr} {L : List (Addr × K)} (S : S0G knd h a L) (ht : ∀ p ∈ L, knd.is h p.2 p.1) : ∃ es ep t, SetG knd h a L es ep t := by
  obtain ⟨es, ep, t, h1, h2, h3, h4, h5, h6, h7, h8⟩ := S
  exact ⟨es, ep, t, h1, h2, h3, h4, ht, h5, h6, h7, h8⟩
theorem SetG.alone {h : Heap} {a : Addr} {L : List (Addr × K)} {es : Array (Int × Value)} {ep : Nat} {t : SetTable} (S : SetG knd h a L es ep t) : S0G knd h a L :=
  ⟨es, ep, t, S.ob, S.rows, S.tab, S.nd, S.plain, S.led, S.room, S.few⟩
variable (knd) in
def SetGO (a : Addr) (L : List (Addr × K)) : HO := .ext fun h => S0G knd h a L
theorem setGO_new {H : Hp} {h : Heap} {a : Addr} {L : List (Addr × K)} (S : S0G knd h a L) : ObjOk P w H h a (SetGO knd a L) := by
  unfold SetGO ObjOk
  refine ⟨S, ?_, fun h1 h2 S1 f => ?_⟩
  · obtain ⟨es, ep, t, ⟨o, ho, _⟩, _⟩ := S
    exact ⟨o, ho⟩
  · obtain ⟨es, ep, t, ⟨o, ho, hx⟩, hr⟩ := S1
    exact ⟨es, ep, t, ⟨o, f o ho, hx⟩, hr⟩
end
end SG

/-! set(list) of objects of a kind, as a rule of calls; sorted of such a set; its length. -/
namespace SG
open PySem PySem.Spec PyProof.Rows L2 Cl
section
variable {X : Cx} {K : Type} [DecidableEq K] (knd : SKind X.prog X.w K) (el : Hp → Addr → K → Prop)
def rSetG : List V → Hp → VK → Prop := fun xs H Q => ∃ (l : Addr) (ks : List (Addr × K)), xs = [.ref l] ∧ SqL X.K H l (ks.map fun p => V.ref p.1) ∧
  (∀ p ∈ ks, el H p.1 p.2) ∧ ks.length < 2048 ∧ ∀ a H' L, Cl.Same H H' → H a = none → H' a = some (SetGO knd a L) → (L.map (·.2)).Nodup → (∀ p ∈ L, p ∈ ks) → (∀ p ∈ ks, p.2 ∈ L.map (·.2)) → Q (.ref a) H'
variable {knd el}
theorem cr_setG (hc : X.calm = true) (hu : X.A.units + 64 < cLine) (hr : knd.room ≤ 50)
    (hel : ∀ {pins σ H s b k}, Inv X pins σ H s → el H b k → knd.is s.heap k b) : CallR X (.type "set") (rSetG knd el) := by
  intro pins s σ H xs us Q I r ⟨l, ks, e, hl, hk, hf, q⟩
  subst e
  rw [Vals.ref1 r]
  obtain ⟨its, rv, hil, hz⟩ := I.list hl
  have ei : its = ks.map fun p => Value.ref p.1 := by
    clear hf hk q hil hz hl
    induction ks generalizing its with
    | nil => cases rv; rfl
    | cons p ks ih =>
      rw [List.map_cons] at rv
      cases rv with
      | cons r0 rr =>
        rw [List.map_cons, ih _ rr]
        congr 1
  refine call_setL (knd := knd) (items := its.toArray) ks (I.ok.hd hc) hil.isList (by simpa using ei) (fun p hp => hel I (hk p hp)) hf (by omega) fun h' tk L es ep t RS GT kp ht => ?_
  have hn : H s.heap.objs.size = none := I.hok.fresh (Nat.le_refl _)
  have J : Inv X pins σ (upd H s.heap.objs.size (SetGO knd s.heap.objs.size L)) { s with heap := h', gens := s.gens, drawn := s.drawn, toks := tk } :=
    I.call (ch := []) (Un.laid kp (Nat.le_refl _) hn) (I.hok.laid kp (Nat.le_refl _) (setGO_new RS.alone)) I.bare (fun _ z => nomatch z)
  refine ⟨.ref s.heap.objs.size, _, J, rfl, q _ _ L (Cl.same_new hn) hn upd_same RS.nd (fun p hp => ?_) fun p hp => ?_⟩
  · exact List.mem_of_mem_take (GT.sub p hp)
  · exact GT.all p (by rw [List.take_length]; exact hp)
end
section
variable {P : Program} {w : World} {K : Type} [DecidableEq K] {knd : SKind P w K} {A : Around} {E : Value → Shared → Prop} {s : Shared} {a : Addr} {L : List (Addr × K)}
  {es : Array (Int × Value)} {ep : Nat} {t : SetTable} {Q : Value → Shared → Prop}
def leG (enc : K → PyData) (q r : Addr × K) : Prop := PySem.W.dataLe false (fun q : Addr × K => enc q.2) q r = true
theorem perm_refs : ∀ {us vs : List Value}, vs.Perm us → ∀ L : List (Addr × K), us = L.map (fun q => Value.ref q.1) → ∃ L1 : List (Addr × K), vs = L1.map (fun q => Value.ref q.1) ∧ L1.Perm L := by
  intro us vs hp
  induction hp with
  | nil =>
    intro L eu
    cases L with
    | nil => exact ⟨[], rfl, .nil⟩
    | cons q L => cases eu
  | @cons x l1 l2 hp ih =>
    intro L eu
    cases L with
    | nil => cases eu
    | cons q L =>
      rw [List.map_cons] at eu
      injection eu with e2 e3
      obtain ⟨L1, e4, p4⟩ := ih L e3
      exact ⟨q :: L1, by rw [List.map_cons, e2, e4], p4.cons q⟩
  | swap x y l =>
    intro L eu
    match L, eu with
    | q :: r :: L, eu =>
      rw [List.map_cons, List.map_cons] at eu
      injection eu with e2 e3
      injection e3 with e3 e4
      exact ⟨r :: q :: L, by rw [List.map_cons, List.map_cons, e2, e3, e4], .swap ..⟩
    | [_], eu => cases eu
    | [], eu => cases eu
  | trans h1 h2 ih1 ih2 =>
    intro L eu
    obtain ⟨L2, e2, p2⟩ := ih2 L eu
    obtain ⟨L1, e1, p1⟩ := ih1 L2 e2
    exact ⟨L1, e1, p1.trans p2⟩
theorem sorted_setG (R : SetG knd s.heap a L es ep t) (hh : A.handled = none) (enc : K → PyData) (dd : Nat) (hrd : ∀ {h k b}, knd.is h k b → Reads h (.ref b) (enc k) [])
    (hal : PySem.W.AllAlike (L.map fun p => enc p.2)) (hso : PySem.W.Sortable (L.map fun p => enc p.2)) (hdp : ∀ p ∈ L, (enc p.2).depth ≤ dd) (hu : A.units + 8 + dd < cLine)
    (hQ : ∀ s' p (out : Array Value) (c : Nat) (L' : List (Addr × K)), (∀ b o, s.heap.get? b = some o → s'.heap.get? b = some o) →
      s'.gens = s.gens → s'.os = s.os → s.heap.objs.size ≤ p → s'.heap.get? p = some (seqObj "list" out c) →
      out.toList = L'.map (fun q => Value.ref q.1) → L'.Perm L → L'.Pairwise (leG enc) → Q (.ref p) s') :
    wpAny (model P w) A (call (.builtin "sorted") [.ref a]) Q E s := by
  obtain ⟨o, ho, hex, hd⟩ := R.ob
  have nfew := R.few
  refine Calls.call_function_entry kind_sorted plain_sorted entry_sorted (args_sorted1 _) ?_
  unfold Builtin.«sorted»
  refine wpAny_bind (m := checkCount "sorted" 1 1 _) (wpAny_pure ?_)
  refine wpAny_bind (collect_set (A := A.in1) hh ⟨o, ho, hex.1, hd⟩ R.fits (by unfold scanBound; have := R.size; omega) R.tab.ris R.led fun s1 vs k1 hz g1 o1 pm => ?_)
  have rows : es.toList.map (·.2) = L.map fun q => Value.ref q.1 := by
    rw [R.rows]
    unfold rowsG
    rw [List.map_map]
    rfl
  rw [rows] at pm
  obtain ⟨L1, e1, p1⟩ := perm_refs pm L rfl
  have n1 : vs.length = L.length := by rw [e1, List.length_map, p1.length_eq]
  have small : vs.length ≤ sizeLine := by rw [sizeLine_eq]; omega
  refine wpAny_bind (wpAny_newList ?_ small)
  have oL : (s1.heap.push (seqObj "list" vs.toArray 0)).get? s1.heap.objs.size = some (seqObj "list" vs.toArray 0) := Heap.get?_push_size _ rfl
  have reads : ∀ q ∈ L, Reads (s1.heap.push (seqObj "list" vs.toArray 0)) (.ref q.1) (enc q.2) [] := fun q hq =>
    hrd (knd.keep (R.tup q hq) fun c o' hc _ => Heap.get?_push_of_some _ (k1 _ _ hc))
  have each : ∀ l : List (Addr × K), (∀ q ∈ l, q ∈ L) → PySem.W.EachIs (fun (v : Value) (q : Addr × K) => v = .ref q.1) (l.map fun q => Value.ref q.1) l ∧
      PySem.W.EachIs (fun v q => ∃ as, Reads (s1.heap.push (seqObj "list" vs.toArray 0)) v ((fun q : Addr × K => enc q.2) q) as ∧ s1.heap.objs.size ∉ as) (l.map fun q => Value.ref q.1) l := by
    intro l
    induction l with
    | nil => intro _; exact ⟨.nil, .nil⟩
    | cons q l ih =>
      intro h
      obtain ⟨i1, i2⟩ := ih fun r hr => h r (List.mem_cons_of_mem _ hr)
      exact ⟨.cons rfl i1, .cons ⟨[], reads q (h q List.mem_cons_self), fun z => nomatch z⟩ i2⟩
  obtain ⟨c1, c2⟩ := each L1 fun q hq => p1.mem_iff.mp hq
  rw [← e1] at c1 c2
  have sub : ∀ d ∈ L1.map (fun q : Addr × K => enc q.2), d ∈ L.map fun p => enc p.2 := fun d hd => ((p1.map fun p : Addr × K => enc p.2).mem_iff).mp hd
  have hso1 : PySem.W.Sortable (L1.map fun q : Addr × K => enc q.2) := by
    rcases hso with h | h
    · exact .inl fun d hd => h d (sub d hd)
    · exact .inr fun d hd => h d (sub d hd)
  refine wpAny_bind (wpAny_holding (PySem.W.list_sort_data (s := { s1 with heap := s1.heap.push (seqObj "list" vs.toArray 0) }) (enc := fun q : Addr × K => enc q.2) oL c1 c2 (fun d hd d' hd' => hal d (sub d hd) d' (sub d' hd')) hso1 (by rw [p1.length_eq, sizeLine_eq]; omega)
    (fun b hb => by have := hdp b (p1.mem_iff.mp hb); show A.units + 1 + 1 + (enc b.2).depth < cLine; omega) fun out a1 a2 => ?_))
  obtain ⟨c, hc⟩ := sortedHeap_at (vs := vs) (out := out.toArray) oL
  have eo : out = (L1.mergeSort (PySem.W.dataLe false fun q : Addr × K => enc q.2)).map fun q => Value.ref q.1 := by
    revert a2
    generalize L1.mergeSort (PySem.W.dataLe false fun q : Addr × K => enc q.2) = M
    intro a2
    clear hc a1
    induction a2 with
    | nil => rfl
    | cons h t ih => rw [List.map_cons, ← ih, h]
  have pM : (L1.mergeSort (PySem.W.dataLe false fun q : Addr × K => enc q.2)).Perm L := (List.mergeSort_perm _ _).trans p1
  have tot : PySem.W.TotalLe (PySem.W.dataLe false fun q : Addr × K => enc q.2) := PySem.W.sortLe_total ..
  have pw : (L1.mergeSort (PySem.W.dataLe false fun q : Addr × K => enc q.2)).Pairwise (leG enc) :=
    List.pairwise_mergeSort tot.trans (fun x y => by rw [Bool.or_eq_true]; exact tot.total x y) L1
  refine wpAny_pure ⟨_, rfl, hQ _ s1.heap.objs.size out.toArray c _ (fun b u e => ?_) g1 o1 hz hc eo pM pw⟩
  have e5 := k1 b u e
  have lt5 := Heap.lt_size e5
  show (sortedHeap (s1.heap.push (seqObj "list" vs.toArray 0)) s1.heap.objs.size vs out.toArray).get? b = some u
  rw [sortedHeap_old (Nat.ne_of_lt lt5) (by rw [show (s1.heap.push (seqObj "list" vs.toArray 0)).objs.size = s1.heap.objs.size + 1 from Array.size_push ..]; exact Nat.lt_succ_of_lt lt5)]
  exact Heap.get?_push_of_some _ e5
end
section
variable {X : Cx} {K : Type} [DecidableEq K] (knd : SKind X.prog X.w K) (el : Hp → Addr → K → Prop) (enc : K → PyData) (dd : Nat)
def rSortedG : List V → Hp → VK → Prop := fun vs H Q => ∃ (a : Addr) (L : List (Addr × K)), vs = [V.ref a] ∧ H a = some (SetGO knd a L) ∧ (∀ p ∈ L, el H p.1 p.2) ∧
  PySem.W.AllAlike (L.map fun p => enc p.2) ∧ PySem.W.Sortable (L.map fun p => enc p.2) ∧ (∀ p ∈ L, (enc p.2).depth ≤ dd) ∧
  ∀ L' : List (Addr × K), L'.Perm L → L'.Pairwise (leG enc) → L.length < 2048 → (L.map (·.2)).Nodup → New H (.lst (L'.map fun q => V.ref q.1)) Q
variable {knd el enc dd}
theorem cr_sortedG (hc : X.calm = true) (hu : X.A.units + 64 < cLine) (hdd : dd ≤ 50) (hrd : ∀ {h k b}, knd.is h k b → Reads h (.ref b) (enc k) [])
    (hel : ∀ {pins σ H s b k}, Inv X pins σ H s → el H b k → knd.is s.heap k b) : CallR X (.builtin "sorted") (rSortedG knd el enc dd) := by
  intro pins s σ H vs us Q I r ⟨a, L, e, ha, hk, h1, h2, h3, q⟩
  subst e
  obtain ⟨es, ep, t, R⟩ := S0G.full (I.hok a _ ha).1 fun p hp => hel I (hk p hp)
  rw [Vals.ref1 r]
  refine sorted_setG R (I.ok.hd hc) enc dd hrd h1 h2 h3 (by omega) fun s' p out c L' k g o hp hg hout pm pw => ?_
  have few : L'.length < 2048 := by rw [pm.length_eq]; exact R.few
  have len : (L'.map fun q => V.ref q.1).length ≤ sizeLine := by rw [List.length_map, sizeLine_eq]; omega
  have hn : H p = none := I.hok.fresh hp
  have vr : ∀ M : List (Addr × K), Vals (M.map fun q => V.ref q.1) (M.map fun q => Value.ref q.1) := fun M => by
    induction M with
    | nil => exact .nil
    | cons q M ih => exact .cons rfl ih
  have hv : Vals (L'.map fun q => V.ref q.1) out.toList := by rw [hout]; exact vr L'
  have J : Inv X pins σ (upd H p (.lst (L'.map fun q => V.ref q.1))) { s with heap := s'.heap, gens := s'.gens, drawn := s'.drawn, toks := s'.toks } :=
    I.call (ch := []) (Un.laid k hp hn) (I.hok.laid k hp ⟨len, out.toList, c, hv, hg⟩) (by rw [g]; exact I.bare) (fun _ z => nomatch z)
  have e : s' = { s with heap := s'.heap, gens := s'.gens, drawn := s'.drawn, toks := s'.toks } := by
    cases s'
    cases s
    cases o
    rfl
  rw [e]
  exact ⟨.ref p, _, J, rfl, (q L' pm pw R.few R.nd).go p hn⟩
end
end SG

/-! set(tuple), and the length of a set, as rules of calls. -/
namespace SG
open PySem PySem.Spec PyProof.Rows L2 Cl
section
variable {P : Program} {w : World} {K : Type} [DecidableEq K] {knd : SKind P w K} {A : Around} {E : Value → Shared → Prop} {s : Shared} {a : Addr} {L : List (Addr × K)}
  {es : Array (Int × Value)} {ep : Nat} {t : SetTable} {Q : Value → Shared → Prop}
theorem call_lenG (R : SetG knd s.heap a L es ep t) (q : Q (.int L.length (s.toks + 1)) { s with toks := s.toks + 1 + 1 }) :
    wpAny (model P w) A (call (.builtin "len") [.ref a]) Q E s := by
  obtain ⟨o, ho, hx, hd⟩ := R.ob
  have ty : s.TypeIs (.ref a) "set" := ⟨o, ho, hx.1⟩
  have hf := R.few
  refine call_len_slot (n := (L.length : Int)) ty PySem.F.slot_set_len (fun Q' q' => ?_) (by omega) (by omega) q
  refine wpAny_call (codeAny_call_builtin PySem.F.slot_set_len.plain PySem.entry_set_len (PySem.F.slot_set_len.check _ _ _ _ _ _ _ _ ty (PySem.F.args_set_len_1 _) ?_))
  unfold Builtin.«frozenset.__len__»
  refine wpAny_bind (m := Builtin.Frozenset.slot0 _ _) ?_
  unfold Builtin.Frozenset.slot0
  refine wpAny_bind (m := slotArgs _ _ _) (wpAny_pure (wpAny_pure ?_))
  refine wpAny_bind (m := Builtin.Frozenset.sizeOf _) ?_
  unfold Builtin.Frozenset.sizeOf setEntries
  refine wpAny_bind (wpAny_bind (wpAny_state R (wpAny_pure (wpAny_pure ?_))))
  rw [R.size]
  exact wpAny_bind (m := mkInt _) (wpAny_mkInt (wpAny_pure q'))
end
section
variable {X : Cx} {K : Type} [DecidableEq K] (knd : SKind X.prog X.w K) (el : Hp → Addr → K → Prop)
def rSetTG : List V → Hp → VK → Prop := fun xs H Q => ∃ (l : Addr) (ks : List (Addr × K)), xs = [.ref l] ∧ SqT X.K H l (ks.map fun p => V.ref p.1) ∧
  (∀ p ∈ ks, el H p.1 p.2) ∧ ks.length < 2048 ∧ ∀ a H' L, Cl.Same H H' → H a = none → H' a = some (SetGO knd a L) → (L.map (·.2)).Nodup → (∀ p ∈ L, p ∈ ks) → (∀ p ∈ ks, p.2 ∈ L.map (·.2)) → Q (.ref a) H'
def rLenG : List V → Hp → VK → Prop := fun xs H Q => ∃ (a : Addr) (L : List (Addr × K)), xs = [.ref a] ∧ H a = some (SetGO knd a L) ∧ (∀ p ∈ L, el H p.1 p.2) ∧ Q (.int L.length) H
variable {knd el}
theorem cr_setTG (hc : X.calm = true) (hu : X.A.units + 64 < cLine) (hr : knd.room ≤ 50)
    (hel : ∀ {pins σ H s b k}, Inv X pins σ H s → el H b k → knd.is s.heap k b) : CallR X (.type "set") (rSetTG knd el) := by
  intro pins s σ H xs us Q I r ⟨l, ks, e, hl, hk, hf, q⟩
  subst e
  rw [Vals.ref1 r]
  obtain ⟨its, rv, hil, hz⟩ := I.tuple hl
  have ei : its = ks.map fun p => Value.ref p.1 := by
    clear hf hk q hil hz hl
    induction ks generalizing its with
    | nil => cases rv; rfl
    | cons p ks ih =>
      rw [List.map_cons] at rv
      cases rv with
      | cons r0 rr =>
        rw [List.map_cons, ih _ rr]
        congr 1
  refine call_setT (knd := knd) (items := its.toArray) ks (I.ok.hd hc) hil (by simpa using ei) (fun p hp => hel I (hk p hp)) hf (by omega) fun h' tk L es ep t RS GT kp ht => ?_
  have hn : H s.heap.objs.size = none := I.hok.fresh (Nat.le_refl _)
  have J : Inv X pins σ (upd H s.heap.objs.size (SetGO knd s.heap.objs.size L)) { s with heap := h', gens := s.gens, drawn := s.drawn, toks := tk } :=
    I.call (ch := []) (Un.laid kp (Nat.le_refl _) hn) (I.hok.laid kp (Nat.le_refl _) (setGO_new RS.alone)) I.bare (fun _ z => nomatch z)
  refine ⟨.ref s.heap.objs.size, _, J, rfl, q _ _ L (Cl.same_new hn) hn upd_same RS.nd (fun p hp => ?_) fun p hp => ?_⟩
  · exact List.mem_of_mem_take (GT.sub p hp)
  · exact GT.all p (by rw [List.take_length]; exact hp)
theorem cr_lenG (hel : ∀ {pins σ H s b k}, Inv X pins σ H s → el H b k → knd.is s.heap k b) : CallR X (.builtin "len") (rLenG knd el) := by
  intro pins s σ H xs us Q I r ⟨a, L, e, ha, hk, q⟩
  subst e
  rw [Vals.ref1 r]
  obtain ⟨es, ep, t, R⟩ := S0G.full (I.hok a _ ha).1 fun p hp => hel I (hk p hp)
  exact call_lenG R ⟨.int L.length, H, I.tok _, ⟨_, rfl⟩, q⟩
end
/-! ### flat tuples -/
section
variable {X : Cx}
def elF (K : PySem.W.Frag) (H : Hp) (b : Addr) (k : List Int) : Prop := SqT K H b (k.map V.int)
theorem elF_is {pins : List (Addr × Obj)} {σ : L2.St} {H : Hp} {s : Shared} {b : Addr} {k : List Int} (I : Inv X pins σ H s) (h : elF X.K H b k) : (flatK X.prog X.w).is s.heap k b := I.isT h
def encF (k : List Int) : PyData := .tuple (k.map .int)
theorem reads_ints {h : Heap} : ∀ {k : List Int} {us : List Value}, IntsAre us k → ReadsAll h us (k.map .int) []
  | _, _, .nil => .nil
  | _, _, .cons n t r => .cons (.int _ _) (reads_ints r)
theorem readF {P : Program} {w : World} {h : Heap} {k : List Int} {b : Addr} (hk : (flatK P w).is h k b) : Reads h (.ref b) (encF k) [] := by
  obtain ⟨o, its, n, h1, h2, h3, h4⟩ := hk
  exact .tuple h1 h2 h3 (reads_ints (ints_of_items h4))
theorem depth_ints : ∀ k : List Int, PyData.depthAll (k.map .int) = 0
  | [] => rfl
  | n :: k => by
    show max 0 (PyData.depthAll (k.map .int)) = 0
    rw [depth_ints k]
    rfl
theorem depthF (k : List Int) : (encF k).depth = 1 := by
  show PyData.depthAll (k.map .int) + 1 = 1
  rw [depth_ints]
end
end SG

set_option maxHeartbeats 0
/-! data of any kind and length: kinds, parts, bulk, bounds; numbers and truths -/
namespace Cl
open PySem PySem.Spec PyProof.Rows L2
open GxR (TabB TabG)
mutual
/-- data whose tuples lie in the heap -/
inductive Dh (K : PySem.W.Frag) (H : Hp) : V → PyData → Prop
  | non : Dh K H .non .none
  | bl (b : Bool) : Dh K H (.bl b) (.bool b)
  | int (i : Int) : Dh K H (.int i) (.int i)
  | str (x : Str) : Dh K H (.str x) (.str x)
  | lst {a : Addr} {xs : List V} {ds : List PyData} : a ≠ sysModules → H a = some (.lst xs) → DhAll K H xs ds → Dh K H (.ref a) (.list ds)
  | tup {a : Addr} {xs : List V} {ds : List PyData} : H a = some (.tup xs) → DhAll K H xs ds → Dh K H (.ref a) (.tuple ds)
  | emp {a : Addr} : H a = some (.dK []) → Dh K H (.ref a) (.dict [])
inductive DhAll (K : PySem.W.Frag) (H : Hp) : List V → List PyData → Prop
  | nil : DhAll K H [] []
  | cons {v : V} {vs : List V} {d : PyData} {ds : List PyData} : Dh K H v d → DhAll K H vs ds → DhAll K H (v :: vs) (d :: ds)
end
section
variable {K : PySem.W.Frag} {H H' : Hp}
mutual
theorem Dh.keep (kl : ∀ a xs, H a = some (.lst xs) → H' a = some (.lst xs)) (kt : ∀ a xs, H a = some (.tup xs) → H' a = some (.tup xs)) (kd : ∀ a kvs, H a = some (.dK kvs) → H' a = some (.dK kvs)) : ∀ (d : PyData) (v : V), Dh K H v d → Dh K H' v d
  | .none, _, h => by cases h; exact .non
  | .bool b, _, h => by cases h; exact .bl b
  | .int i, _, h => by cases h; exact .int i
  | .str x, _, h => by cases h; exact .str x
  | .list ds, _, h => by
    cases h with
    | lst h0 h1 h2 => exact .lst h0 (kl _ _ h1) (DhAll.keep kl kt kd ds _ h2)
  | .tuple ds, _, h => by
    cases h with
    | tup h1 h2 => exact .tup (kt _ _ h1) (DhAll.keep kl kt kd ds _ h2)
  | .dict ds, _, h => by
    cases h with
    | emp h1 => exact .emp (kd _ _ h1)
theorem DhAll.keep (kl : ∀ a xs, H a = some (.lst xs) → H' a = some (.lst xs)) (kt : ∀ a xs, H a = some (.tup xs) → H' a = some (.tup xs)) (kd : ∀ a kvs, H a = some (.dK kvs) → H' a = some (.dK kvs)) : ∀ (ds : List PyData) (vs : List V), DhAll K H vs ds → DhAll K H' vs ds
  | [], _, h => by cases h; exact .nil
  | d :: ds, _, h => by
    cases h with
    | cons h1 h2 => exact .cons (Dh.keep kl kt kd d _ h1) (DhAll.keep kl kt kd ds _ h2)
end
mutual
theorem Dh.dq : ∀ {d : PyData} {v : V}, Dh K H v d → Dq K H v d
  | .none, _, h => by cases h; exact .non
  | .bool b, _, h => by cases h; exact .bl b
  | .int i, _, h => by cases h; exact .int i
  | .str x, _, h => by cases h; exact .str x
  | .list ds, _, h => by
    cases h with
    | lst h0 h1 h2 => exact .lst h0 h1 (DhAll.dq h2)
  | .tuple ds, _, h => by
    cases h with
    | tup h1 h2 => exact .tup (.inl (.inl h1)) (DhAll.dq h2)
  | .dict ds, _, h => by
    cases h with
    | emp h1 => exact .emp h1
theorem DhAll.dq : ∀ {ds : List PyData} {vs : List V}, DhAll K H vs ds → DqAll K H vs ds
  | [], _, h => by cases h; exact .nil
  | d :: ds, _, h => by
    cases h with
    | cons h1 h2 => exact .cons (Dh.dq h1) (DhAll.dq h2)
end
theorem Dh.same {v : V} {d : PyData} (h : Dh K H v d) (s : Same H H') : Dh K H' v d := h.keep (fun a xs e => s _ _ e) (fun a xs e => s _ _ e) (fun a kvs e => s _ _ e)
theorem DhAll.same {vs : List V} {ds : List PyData} (h : DhAll K H vs ds) (s : Same H H') : DhAll K H' vs ds := DhAll.keep (fun a xs e => s _ _ e) (fun a xs e => s _ _ e) (fun a kvs e => s _ _ e) _ _ h
/-- data beside a list that grows -/
def hidL (M : Addr) (H : Hp) : Hp := fun b => if b = M then none else H b
theorem hidL_at {M b : Addr} {o : HO} (h : hidL M H b = some o) : b ≠ M ∧ H b = some o := by
  unfold hidL at h
  split at h
  · cases h
  · rename_i hb
    exact ⟨hb, h⟩
theorem hidL_ne {M b : Addr} (h : b ≠ M) : hidL M H b = H b := if_neg h
theorem Same.hidL {M : Addr} (s : Same H H') : Same (Cl.hidL M H) (Cl.hidL M H') := fun b x z => by
  obtain ⟨z1, z2⟩ := hidL_at z
  rw [hidL_ne z1]
  exact s _ _ z2
theorem hidL_upd {M : Addr} {o : HO} : Cl.hidL M (upd H M o) = Cl.hidL M H := by
  funext b
  unfold Cl.hidL
  by_cases h : b = M
  · rw [if_pos h, if_pos h]
  · rw [if_neg h, if_neg h, upd_ne h]
theorem Dh.un {M : Addr} {v : V} {d : PyData} (h : Dh K (Cl.hidL M H) v d) : Dh K H v d := h.keep (fun _ _ e => (hidL_at e).2) (fun _ _ e => (hidL_at e).2) (fun _ _ e => (hidL_at e).2)
end
section
variable {X : Cx}
theorem sl_tupH : SlR X (fun x lo hi H Q => ∃ a xs, x = .ref a ∧ H a = some (.tup xs) ∧ ∀ p H', Same H H' → H' p = some (.tup (cutV xs lo hi)) → Q (.ref p) H') := fun pins s σ H x v vl vu lo hi sl Q I rx hs pl pu ⟨a, xs, h1, h2, q⟩ =>
  sl_tupA pins s σ H x v vl vu lo hi sl Q I rx hs pl pu ⟨a, xs, h1, .inl (.inl h2), fun hw => q a H (.refl _) (by rw [cut_whole hw]; exact h2), fun _ p n => q p _ (same_new n) upd_same⟩
theorem op_catTH : OpR X (binaryOp .Add) (fun x y H Q => ∃ a b xs ys, x = .ref a ∧ y = .ref b ∧ H a = some (.tup xs) ∧ H b = some (.tup ys) ∧ xs.length + ys.length ≤ sizeLine ∧ ∀ p H', Same H H' → H' p = some (.tup (xs ++ ys)) → Q (.ref p) H') := fun pins s σ H x y v u Q I rx ry ⟨a, b, xs, ys, h1, h2, h3, h4, h5, q⟩ =>
  op_catA pins s σ H x y v u Q I rx ry ⟨a, b, xs, ys, h1, h2, .inl (.inl h3), .inl (.inl h4), h5, fun e => q b H (.refl _) (by rw [e]; exact h4), fun _ e => q a H (.refl _) (by rw [e, List.append_nil]; exact h3), fun _ _ p n => q p _ (same_new n) upd_same⟩
end
theorem DhAll.len {K : PySem.W.Frag} {H : Hp} : ∀ {xs : List V} {ds : List PyData}, DhAll K H xs ds → xs.length = ds.length
  | _, _, .nil => rfl
  | _, _, .cons _ h => by rw [List.length_cons, List.length_cons, h.len]
theorem Dh.kd {K : PySem.W.Frag} {H : Hp} {v : V} {d : PyData} (h : Dh K H v d) : ∃ T, Kd K H v T ∧ (T = "tuple" ↔ ∃ ds, d = .tuple ds) ∧ (T = "str" ↔ ∃ s, d = .str s) ∧ (T = "int" ↔ ∃ i, d = .int i) := by
  cases h with
  | non => exact ⟨_, .non, by simp, by simp, by simp⟩
  | bl b => exact ⟨_, .bl b, by simp, by simp, by simp⟩
  | int i => exact ⟨_, .int i, by simp, by simp, by simp⟩
  | str x => exact ⟨_, .str x, by simp, by simp, by simp⟩
  | lst h0 h1 h2 => exact ⟨_, .lst (.inl (.inl h1)), by simp, by simp, by simp⟩
  | tup h1 h2 => exact ⟨_, .tup (.inl (.inl h1)), by simp, by simp, by simp⟩
  | emp e => exact ⟨_, .dct e, by simp, by simp, by simp⟩
def isID : PyData → Bool
  | .int _ => true
  | _ => false
theorem Dh.isI {K : PySem.W.Frag} {H : Hp} {v : V} {d : PyData} (h : Dh K H v d) : Cl.isI v = isID d := by
  cases h <;> rfl
theorem dhs_take {K : PySem.W.Frag} {H : Hp} : ∀ {xs : List V} {ds : List PyData} (n : Nat), DhAll K H xs ds → DhAll K H (xs.take n) (ds.take n)
  | _, _, 0, _ => .nil
  | _, _, n + 1, .nil => .nil
  | _, _, n + 1, .cons h1 h2 => .cons h1 (dhs_take n h2)
theorem dhs_drop {K : PySem.W.Frag} {H : Hp} : ∀ {xs : List V} {ds : List PyData} (n : Nat), DhAll K H xs ds → DhAll K H (xs.drop n) (ds.drop n)
  | _, _, 0, h => h
  | _, _, n + 1, .nil => .nil
  | _, _, n + 1, .cons h1 h2 => dhs_drop n h2
theorem dhs_kd {K : PySem.W.Frag} {H : Hp} : ∀ {xs : List V} {ds : List PyData}, DhAll K H xs ds → ∀ x ∈ xs, ∃ T, Kd K H x T
  | _, _, .nil, x, hx => nomatch hx
  | _, _, .cons h1 h2, x, hx => by
    rcases List.mem_cons.mp hx with rfl | hx
    · obtain ⟨T, h, _⟩ := h1.kd
      exact ⟨T, h⟩
    · exact dhs_kd h2 x hx
def wholesD : PyData → Int → Bool
  | .tuple ds, m => decide ((ds.length : Int) = m) && ds.all isID
  | _, _ => false
def ptD : PyData → Bool
  | .tuple [.int _, .int _] => true
  | _ => false
theorem wholesD_tup (ds : List PyData) (m : Int) : wholesD (.tuple ds) m = (decide ((ds.length : Int) = m) && ds.all isID) := rfl
theorem wholesD_2 (t : PyData) : wholesD t 2 = ptD t := by
  unfold ptD
  split
  · rfl
  · rename_i h
    cases t with
    | tuple ds =>
      match ds with
      | [] => rfl
      | [_] => rfl
      | [a, b] =>
        show (true && (isID a && (isID b && true))) = false
        cases a <;> cases b <;> first | rfl | exact absurd rfl (h _ _)
      | _ :: _ :: _ :: r =>
        rw [wholesD_tup, decide_eq_false (by simp only [List.length_cons]; omega), Bool.false_and]
    | _ => rfl
theorem ptD_ints {p : PyData} (h : ptD p = true) : ∃ a b, p = .tuple [.int a, .int b] := by
  unfold ptD at h
  split at h
  · exact ⟨_, _, rfl⟩
  · cases h
theorem bulk_app : ∀ a b : List PyData, PyData.bulkAll (a ++ b) = PyData.bulkAll a + PyData.bulkAll b
  | [], b => by simp [PyData.bulkAll]
  | x :: a, b => by
    have ih := bulk_app a b
    show x.bulk + 1 + PyData.bulkAll (a ++ b) = x.bulk + 1 + PyData.bulkAll a + PyData.bulkAll b
    omega
theorem bulk_rev : ∀ a : List PyData, PyData.bulkAll a.reverse = PyData.bulkAll a
  | [] => rfl
  | x :: a => by
    rw [List.reverse_cons, bulk_app, bulk_rev a]
    show _ + (x.bulk + 1 + 0) = x.bulk + 1 + _
    omega
theorem bulk_split (a : List PyData) (j : Nat) : PyData.bulkAll (a.take j) + PyData.bulkAll (a.drop j) = PyData.bulkAll a := by
  rw [← bulk_app, List.take_append_drop]
theorem bulk_take (a : List PyData) (j : Nat) : PyData.bulkAll (a.take j) ≤ PyData.bulkAll a := by have := bulk_split a j; omega
theorem bulk_drop (a : List PyData) (j : Nat) : PyData.bulkAll (a.drop j) ≤ PyData.bulkAll a := by have := bulk_split a j; omega
theorem bulk_drop_le (a : List PyData) (i j : Nat) (h : i ≤ j) : PyData.bulkAll (a.drop j) ≤ PyData.bulkAll (a.drop i) := by
  have := bulk_drop (a.drop i) (j - i)
  rw [List.drop_drop] at this
  rw [show i + (j - i) = j by omega] at this
  exact this
theorem bulk_mem {x : PyData} : ∀ {a : List PyData}, x ∈ a → x.bulk + 1 ≤ PyData.bulkAll a
  | y :: a, h => by
    show _ ≤ y.bulk + 1 + PyData.bulkAll a
    rcases List.mem_cons.mp h with rfl | h
    · omega
    · have := bulk_mem h
      omega
theorem bulk_at {a : List PyData} {j : Nat} {x : PyData} (h : a[j]? = some x) : PyData.bulkAll (a.take j) + (x.bulk + 1) + PyData.bulkAll (a.drop (j + 1)) = PyData.bulkAll a := by
  obtain ⟨hj, e⟩ := List.getElem?_eq_some_iff.mp h
  have h1 := bulk_split a j
  have h2 : a.drop j = x :: a.drop (j + 1) := by rw [← e]; exact List.drop_eq_getElem_cons hj
  rw [h2] at h1
  have h3 : PyData.bulkAll (x :: a.drop (j + 1)) = x.bulk + 1 + PyData.bulkAll (a.drop (j + 1)) := rfl
  omega
theorem allE {n : Nat} : ∀ {ds : List PyData}, (∀ x ∈ ds, x.leavesShort 200 = true ∧ x.showable = true ∧ x.depth ≤ n) →
    PyData.leavesShortAll 200 ds = true ∧ PyData.showableAll ds = true ∧ PyData.depthAll ds ≤ n
  | [], _ => ⟨rfl, rfl, Nat.zero_le _⟩
  | d :: ds, h => by
    obtain ⟨a1, a2, a3⟩ := h d (List.mem_cons_self ..)
    obtain ⟨b1, b2, b3⟩ := allE fun x hx => h x (List.mem_cons_of_mem _ hx)
    refine ⟨?_, ?_, ?_⟩
    · simp only [PyData.leavesShortAll, a1, b1, Bool.and_self]
    · simp only [PyData.showableAll, a2, b2, Bool.and_self]
    · simp only [PyData.depthAll]
      omega
theorem dhs_isI {K : PySem.W.Frag} {H : Hp} : ∀ {xs : List V} {ds : List PyData}, DhAll K H xs ds → xs.all Cl.isI = ds.all isID
  | _, _, .nil => rfl
  | _, _, .cons h1 h2 => by rw [List.all_cons, List.all_cons, dhs_isI h2, h1.isI]
theorem Dh.th {K : PySem.W.Frag} {H : Hp} {v : V} {t : PyData} (h : Dh K H v t) : ∃ o, Th K H v o ∧ ∀ m, wholes o m = wholesD t m := by
  obtain ⟨T, hk, ht, _⟩ := h.kd
  by_cases e : T = "tuple"
  · obtain ⟨ds, rfl⟩ := ht.mp e
    cases h with
    | tup h1 h2 => exact ⟨some _, ⟨_, rfl, .inl (.inl h1), dhs_kd h2⟩, fun m => by
        show (decide _ && _) = (decide _ && _)
        rw [dhs_isI h2, h2.len]⟩
  · refine ⟨none, ⟨T, hk, e⟩, fun m => ?_⟩
    show false = wholesD t m
    unfold wholesD
    split
    · exact absurd (ht.mpr ⟨_, rfl⟩) e
    · rfl
/-- bounds of data: of its leaves and its depth -/
inductive Gk (p : Nat) : Nat → PyData → Prop
  | lf {n : Nat} {d : PyData} : Lf p d → Gk p n d
  | lst {n : Nat} {ds : List PyData} : (∀ x ∈ ds, Gk p n x) → Gk p (n + 1) (.list ds)
  | tup {n : Nat} {ds : List PyData} : (∀ x ∈ ds, Gk p n x) → Gk p (n + 1) (.tuple ds)
  | emp {n : Nat} : Gk p (n + 1) (.dict [])
theorem Gk.up {p n : Nat} {d : PyData} (h : Gk p n d) : Gk (p + 1) n d := by
  induction h with
  | lf h => exact .lf h.up
  | lst _ ih => exact .lst ih
  | tup _ ih => exact .tup ih
  | emp => exact .emp
theorem Gk.deep {p n : Nat} {d : PyData} (h : Gk p n d) : Gk p (n + 1) d := by
  induction h with
  | lf h => exact .lf h
  | lst _ ih => exact .lst ih
  | tup _ ih => exact .tup ih
  | emp => exact .emp
theorem Gk.fine {p n : Nat} {d : PyData} (hp : p ≤ 2) (h : Gk p n d) : d.leavesShort 200 = true ∧ d.showable = true ∧ d.depth ≤ n := by
  induction h with
  | @lf n d h =>
    have g := Gd.fine hp (Gd.lf (n := 0) h)
    exact ⟨g.1, g.2.1, Nat.le_trans g.2.2.1 (Nat.zero_le _)⟩
  | @lst n ds _ ih =>
    obtain ⟨a1, a2, a3⟩ := allE ih
    exact ⟨a1, a2, Nat.succ_le_succ a3⟩
  | @tup n ds _ ih =>
    obtain ⟨a1, a2, a3⟩ := allE ih
    exact ⟨a1, a2, Nat.succ_le_succ a3⟩
  | emp => exact ⟨rfl, rfl, by simp [PyData.depth, PyData.depthKv]⟩
theorem Gk.rep {p n : Nat} {d : PyData} (hp : p ≤ 2) (hn : n ≤ 40) (h : Gk p n d) (hb : d.bulk ≤ 60000) : RepOk d := by
  obtain ⟨a1, a2, a3⟩ := h.fine hp
  exact ⟨a1, a2, by omega, hb⟩
theorem gInt {p n : Nat} {i : Int} (h : i.natAbs < 2 ^ (130 + p)) : Gk p n (.int i) := .lf h
theorem gStr {p n : Nat} {x : Str} (h : x.cps.size ≤ 15) (h2 : ∀ c ∈ x.cps.toList, c < 128) : Gk p n (.str x) := .lf ⟨by
  have : 1 ≤ 3 ^ p := Nat.one_le_pow _ _ (by decide)
  omega, h2⟩
theorem gInt0 {p n : Nat} {i : Int} (h : i.natAbs < 2 ^ 130) : Gk p n (.int i) := .lf (Nat.lt_of_lt_of_le h (Nat.pow_le_pow_right (by omega) (by omega)))
section
variable {K : PySem.W.Frag}
theorem DhAll.app {H : Hp} : ∀ {vs : List V} {xs : List PyData}, DhAll K H vs xs → ∀ {ws : List V} {ys : List PyData}, DhAll K H ws ys → DhAll K H (vs ++ ws) (xs ++ ys)
  | _, _, .nil, _, _, h => h
  | _, _, .cons h1 h2, _, _, h => .cons h1 (DhAll.app h2 h)
theorem DhAll.rev {H : Hp} : ∀ {vs : List V} {xs : List PyData}, DhAll K H vs xs → DhAll K H vs.reverse xs.reverse
  | _, _, .nil => .nil
  | _, _, .cons h1 h2 => by
    rw [List.reverse_cons, List.reverse_cons]
    exact DhAll.app h2.rev (.cons h1 .nil)
end
theorem cutV_take (xs : List V) (k : Nat) : cutV xs none (some (k : Nat)) = xs.take k := by
  unfold cutV
  rw [HT.sIx_none, show HT.sIx xs.length xs.length (some ((k : Nat) : Int)) = min k xs.length from HT.sIx_nat _ _ k, List.drop_zero, Nat.sub_zero]
  by_cases h : k ≤ xs.length
  · rw [Nat.min_eq_left h]
  · rw [Nat.min_eq_right (by omega), List.take_of_length_le (Nat.le_refl _), List.take_of_length_le (by omega)]
theorem cutV_drop (xs : List V) (k : Nat) : cutV xs (some (k : Nat)) none = xs.drop k := by
  unfold cutV
  rw [HT.sIx_none, show HT.sIx xs.length 0 (some ((k : Nat) : Int)) = min k xs.length from HT.sIx_nat _ _ k]
  by_cases h : k ≤ xs.length
  · rw [Nat.min_eq_left h, List.take_of_length_le (by rw [List.length_drop]; exact Nat.le_refl _)]
  · rw [Nat.min_eq_right (by omega), Nat.sub_self, List.take_zero, List.drop_eq_nil_of_le (by omega)]
theorem cutV_mid (xs : List V) (i k : Nat) (h : i ≤ xs.length) : cutV xs (some (i : Nat)) (some ((i + k : Nat) : Int)) = (xs.drop i).take k := by
  unfold cutV
  rw [show HT.sIx xs.length 0 (some ((i : Nat) : Int)) = min i xs.length from HT.sIx_nat _ _ i, show HT.sIx xs.length xs.length (some ((i + k : Nat) : Int)) = min (i + k) xs.length from HT.sIx_nat _ _ (i + k), Nat.min_eq_left h]
  by_cases h2 : i + k ≤ xs.length
  · rw [Nat.min_eq_left h2, Nat.add_sub_cancel_left]
  · rw [Nat.min_eq_right (by omega), List.take_of_length_le (by rw [List.length_drop]; exact Nat.le_refl _), List.take_of_length_le (by rw [List.length_drop]; omega)]
inductive At : PyData → List Nat → PyData → Prop
  | here {x : PyData} : At x [] x
  | sub {ds : List PyData} {k : Nat} {y z : PyData} {q : List Nat} : ds[k]? = some y → At y q z → At (.tuple ds) (k :: q) z
def putD : List Nat → PyData → PyData → PyData
  | [], _, y => y
  | k :: q, .tuple ds, y => .tuple (ds.take k ++ [putD q (ds.getD k .none) y] ++ ds.drop (k + 1))
  | _ :: _, x, _ => x
theorem Gk.deepTo {p m n : Nat} {d : PyData} (h : Gk p m d) (l : m ≤ n) : Gk p n d := by
  induction l with
  | refl => exact h
  | step _ ih => exact ih.deep
theorem At.gd {x z : PyData} {q : List Nat} {p : Nat} (a : At x q z) : ∀ {n : Nat}, Gk p n x → ∃ m, m + q.length = n ∧ Gk p m z := by
  induction a with
  | here => exact fun {n} h => ⟨n, rfl, h⟩
  | sub e _ ih =>
    intro n h
    cases h with
    | lf h => exact h.elim
    | tup hx =>
      obtain ⟨m, h1, h2⟩ := ih (hx _ (List.mem_of_getElem? e))
      exact ⟨m, by rw [List.length_cons]; omega, h2⟩
theorem At.put {x z y : PyData} {q : List Nat} {p m : Nat} (a : At x q z) : ∀ {n : Nat}, Gk p n x → Gk (p + 1) m y → m + q.length ≤ n + 1 → Gk (p + 1) (n + 1) (putD q x y) := by
  induction a with
  | here => exact fun {n} _ h l => h.deepTo (by simpa using l)
  | @sub ds k y0 z0 q0 e _ ih =>
    intro n h hy l
    cases h with
    | lf h => exact h.elim
    | @tup n _ hx =>
      have hk : k < ds.length := (List.getElem?_eq_some_iff.mp e).1
      have eg : ds.getD k .none = y0 := by rw [List.getD_eq_getElem?_getD, e]; rfl
      show Gk (p + 1) (n + 1 + 1) (.tuple (ds.take k ++ [putD q0 (ds.getD k .none) y] ++ ds.drop (k + 1)))
      rw [eg]
      rw [List.length_cons] at l
      have h1 := ih (hx _ (List.mem_of_getElem? e)) hy (by omega)
      refine .tup fun w hw => ?_
      rcases List.mem_append.mp hw with hw | hw
      · rcases List.mem_append.mp hw with hw | hw
        · exact (hx _ (List.mem_of_mem_take hw)).up.deep
        · rw [List.mem_singleton.mp hw]
          exact h1
      · exact (hx _ (List.mem_of_mem_drop hw)).up.deep
theorem At.bulk {x z y : PyData} {q : List Nat} (a : At x q z) : (putD q x y).bulk + z.bulk = x.bulk + y.bulk ∧ z.bulk ≤ x.bulk := by
  induction a with
  | @here x => exact ⟨Nat.add_comm y.bulk x.bulk, Nat.le_refl _⟩
  | @sub ds k y0 z0 q0 e _ ih =>
    have eg : ds.getD k .none = y0 := by rw [List.getD_eq_getElem?_getD, e]; rfl
    have h1 : (putD (k :: q0) (.tuple ds) y).bulk = PyData.bulkAll (ds.take k) + ((putD q0 y0 y).bulk + 1) + PyData.bulkAll (ds.drop (k + 1)) := by
      show PyData.bulkAll (ds.take k ++ [putD q0 (ds.getD k .none) y] ++ ds.drop (k + 1)) = _
      rw [eg, bulk_app, bulk_app]
      rfl
    have h2 := bulk_at e
    have h3 : (PyData.tuple ds).bulk = PyData.bulkAll ds := rfl
    omega
def ki (k : Nat) : V := .int k
def AtQ (K : PySem.W.Frag) (H : Hp) (u : V) (q : List Nat) : Prop := ∃ a, u = .ref a ∧ SqT K H a (q.map ki)
theorem AtQ.same {K : PySem.W.Frag} {H H' : Hp} {u : V} {q : List Nat} (h : AtQ K H u q) (s : Same H H') : AtQ K H' u q := by
  obtain ⟨a, e, h⟩ := h
  exact ⟨a, e, seT s h⟩
theorem dhs_get {K : PySem.W.Frag} {H : Hp} : ∀ {xs : List V} {ds : List PyData} {k : Nat} {y : PyData}, DhAll K H xs ds → ds[k]? = some y → ∃ v, xs[k]? = some v ∧ Dh K H v y
  | _, _, k, _, .nil, e => by simp at e
  | _, _, 0, _, .cons h1 _, e => by
    cases e
    exact ⟨_, rfl, h1⟩
  | _, _, k + 1, y, .cons (vs := vs) (ds := ds) _ h2, e => by
    have e : ds[k]? = some y := e
    obtain ⟨v, e1, e2⟩ := dhs_get (k := k) h2 e
    exact ⟨v, e1, e2⟩
theorem at_nil {x : PyData} : ∀ q ∈ [([] : List Nat)], ∃ z, At x q z := fun q hq => by
  rw [List.mem_singleton.mp hq]
  exact ⟨x, .here⟩
def numV : V → Option Int
  | .int i => some i
  | .bl b => some (b01 b)
  | _ => none
theorem numV_cases {x : V} {i : Int} (h : numV x = some i) : x = .int i ∨ ∃ b, x = .bl b ∧ i = b01 b := by
  cases x <;> first | (cases h; exact .inl rfl) | (cases h; exact .inr ⟨_, rfl, rfl⟩) | cases h
section
variable {X : Cx}
theorem op_addN : OpR X (binaryOp .Add) (fun x y H Q => ∃ i j, numV x = some i ∧ y = .int j ∧ Q (.int (i + j)) H) := by
  intro pins s σ H x y v u Q I rx ry hh
  obtain ⟨i, j, h, rfl, q⟩ := hh
  rcases numV_cases h with rfl | ⟨b, rfl, rfl⟩
  · exact op_add pins s σ H _ _ v u Q I rx ry ⟨_, _, rfl, rfl, q⟩
  · exact op_add_bi pins s σ H _ _ v u Q I rx ry ⟨_, _, rfl, rfl, q⟩
theorem op_subN : OpR X (binaryOp .Sub) (fun x y H Q => ∃ i j, numV x = some i ∧ y = .int j ∧ Q (.int (i - j)) H) := by
  intro pins s σ H x y v u Q I rx ry hh
  obtain ⟨i, j, h, rfl, q⟩ := hh
  rcases numV_cases h with rfl | ⟨b, rfl, rfl⟩
  · exact op_sub pins s σ H _ _ v u Q I rx ry ⟨_, _, rfl, rfl, q⟩
  · exact op_sub_bi pins s σ H _ _ v u Q I rx ry ⟨_, _, rfl, rfl, q⟩
theorem op_rsubN : OpR X (binaryOp .Sub) (fun x y H Q => ∃ j i, x = .int j ∧ numV y = some i ∧ Q (.int (j - i)) H) := by
  intro pins s σ H x y v u Q I rx ry hh
  obtain ⟨j, i, rfl, h, q⟩ := hh
  rcases numV_cases h with rfl | ⟨b, rfl, rfl⟩
  · exact op_sub pins s σ H _ _ v u Q I rx ry ⟨_, _, rfl, rfl, q⟩
  · exact op_sub_ib pins s σ H _ _ v u Q I rx ry ⟨_, _, rfl, rfl, q⟩
theorem op_mulN : OpR X (binaryOp .Mult) (fun x y H Q => ∃ j i, x = .int j ∧ numV y = some i ∧ (-(2 ^ 60) < j ∧ j < 2 ^ 60) ∧ Q (.int (j * i)) H) := by
  intro pins s σ H x y v u Q I rx ry hh
  obtain ⟨j, i, rfl, h, hj, q⟩ := hh
  rcases numV_cases h with rfl | ⟨b, rfl, rfl⟩
  · exact op_mul pins s σ H _ _ v u Q I rx ry ⟨_, _, rfl, rfl, .inl ⟨by omega, by omega⟩, q⟩
  · exact op_mul_ib pins s σ H _ _ v u Q I rx ry ⟨_, _, rfl, rfl, q⟩
theorem op_eqN : OpR X (compareOp .Eq) (fun x y H Q => ∃ i j, numV x = some i ∧ y = .int j ∧ Q (.bl (decide (i = j))) H) := by
  intro pins s σ H x y v u Q I rx ry hh
  obtain ⟨i, j, h, rfl, q⟩ := hh
  rcases numV_cases h with rfl | ⟨b, rfl, rfl⟩
  · refine op_eq pins s σ H _ _ v u Q I rx ry ⟨rfl, ?_⟩
    rw [show decide (V.int i = V.int j) = decide (i = j) from decide_eq_decide.mpr ⟨V.int.inj, congrArg _⟩]
    exact q
  · refine op_eq_bi pins s σ H _ _ v u Q I rx ry ⟨_, _, rfl, rfl, ?_⟩
    rw [show (b01 b == j) = decide (b01 b = j) from rfl]
    exact q
def strN : V → Str
  | .int i => toString i
  | .bl b => if b then "True" else "False"
  | _ => ""
theorem call_strN : CallR X (.type "str") (fun xs H Q => ∃ x i, xs = [x] ∧ numV x = some i ∧ i.natAbs.log2 < 1920 ∧ Q (.str (strN x)) H) := by
  intro pins s σ H xs us Q I r hh
  obtain ⟨x, i, e, h, hl, q⟩ := hh
  rcases numV_cases h with rfl | ⟨b, rfl, rfl⟩
  · exact call_str_int pins s σ H _ us Q I r ⟨i, e, hl, q⟩
  · exact call_str_bool pins s σ H _ us Q I r ⟨b, e, q⟩
end
theorem dhs_at {K : PySem.W.Frag} {H : Hp} {vs : List V} {xs : List PyData} (h : DhAll K H vs xs) {j : Int} (h0 : 0 ≤ j) (h1 : j < (vs.length : Nat)) : ∃ w y, atI vs j = some w ∧ y ∈ xs ∧ Dh K H w y := by
  obtain ⟨k, rfl⟩ : ∃ k : Nat, j = (k : Nat) := ⟨j.toNat, by omega⟩
  have hk : k < xs.length := by rw [← h.len]; omega
  obtain ⟨v, e, q⟩ := dhs_get h (List.getElem?_eq_getElem hk)
  exact ⟨v, _, atI_nat e, List.getElem_mem hk, q⟩
theorem num_bd {K : PySem.W.Frag} {H : Hp} {u : V} {z : PyData} {i : Int} {p m : Nat} (h : numV u = some i) (hd : Dh K H u z) (g : Gk p m z) : i.natAbs < 2 ^ (130 + p) := by
  rcases numV_cases h with rfl | ⟨b, rfl, rfl⟩
  · cases hd
    cases g with
    | lf h => exact h
  · have : b01 b = 0 ∨ b01 b = 1 := by unfold b01; split <;> omega
    have h4 : 2 ^ 130 ≤ 2 ^ (130 + p) := Nat.pow_le_pow_right (by omega) (by omega)
    have h5 : (2 : Nat) ≤ 2 ^ 130 := by decide
    omega
theorem log1920 {i : Int} {p : Nat} (h : i.natAbs < 2 ^ (130 + p)) (hp : p ≤ 1) : i.natAbs.log2 < 1920 := by
  have h : okI i := Nat.lt_of_lt_of_le h (Nat.pow_le_pow_right (by omega) (by omega))
  have := h.log
  omega
end Cl

set_option maxHeartbeats 0
namespace Cl
open PySem PySem.Spec PyProof.Rows L2
def topS (i : Nat) : Stmt := PySem.Challenge.pw_cornerlines_k20_what_is_a_path.main.body.getD i (.Pass ⟨0, 0, 0, 0⟩)

abbrev sis_whole : Stmt := topS 1
theorem scis_whole : FnScope ["thing"] ["thing"] (defScope sis_whole) := ⟨rfl, rfl, rfl, by decide +kernel, rfl, by decide +kernel, by decide +kernel⟩
abbrev sare_wholes : Stmt := topS 2
theorem scare_wholes : FnScope ["thing", "many", "part"] ["thing", "many"] (defScope sare_wholes) := ⟨rfl, rfl, rfl, by decide +kernel, rfl, by decide +kernel, by decide +kernel⟩
abbrev sis_path : Stmt := topS 4
theorem scis_path : FnScope ["thing"] ["thing"] (defScope sis_path) := ⟨rfl, rfl, rfl, by decide +kernel, rfl, by decide +kernel, by decide +kernel⟩
abbrev s_law_deck : Stmt := topS 6
theorem sc_law_deck : FnScope ["_law_script", "_law_cell"] ["_law_script"] (defScope s_law_deck) := ⟨rfl, rfl, rfl, by decide +kernel, rfl, by decide +kernel, by decide +kernel⟩
abbrev s_law_draw : Stmt := topS 7
theorem sc_law_draw : FnScope ["_law_deck_here", "_law_most", "_law_cell", "_law_number"] ["_law_deck_here", "_law_most"] (defScope s_law_draw) := ⟨rfl, rfl, rfl, by decide +kernel, rfl, by decide +kernel, by decide +kernel⟩
abbrev s_law_is_whole : Stmt := topS 8
theorem sc_law_is_whole : FnScope ["_law_thing"] ["_law_thing"] (defScope s_law_is_whole) := ⟨rfl, rfl, rfl, by decide +kernel, rfl, by decide +kernel, by decide +kernel⟩
abbrev s_law_spots : Stmt := topS 9
theorem sc_law_spots : FnScope ["_law_thing", "_law_found", "_law_k", "_law_spot"] ["_law_thing"] (defScope s_law_spots) := ⟨rfl, rfl, rfl, by decide +kernel, rfl, by decide +kernel, by decide +kernel⟩
abbrev s_law_with : Stmt := topS 10
theorem sc_law_with : FnScope ["_law_thing", "_law_spot", "_law_part", "_law_k"] ["_law_thing", "_law_spot", "_law_part"] (defScope s_law_with) := ⟨rfl, rfl, rfl, by decide +kernel, rfl, by decide +kernel, by decide +kernel⟩
abbrev s_law_bent : Stmt := topS 11
theorem sc_law_bent : FnScope ["_law_thing", "_law_spoil", "_law_way", "_law_place", "_law_what", "_law_spots_here", "_law_spot", "_law_part", "_law_k", "_law_some", "_law_at", "_law_odd"] ["_law_thing", "_law_spoil"] (defScope s_law_bent) := ⟨rfl, rfl, rfl, by decide +kernel, rfl, by decide +kernel, by decide +kernel⟩
abbrev s_law_spoils : Stmt := topS 12
theorem sc_law_spoils : FnScope ["_law_deck_here", "_law_many", "_law_found", "_law_k"] ["_law_deck_here", "_law_many"] (defScope s_law_spoils) := ⟨rfl, rfl, rfl, by decide +kernel, rfl, by decide +kernel, by decide +kernel⟩
abbrev s_law_corner : Stmt := topS 13
theorem sc_law_corner : FnScope ["_law_deck_here", "_law_way"] ["_law_deck_here", "_law_way"] (defScope s_law_corner) := ⟨rfl, rfl, rfl, by decide +kernel, rfl, by decide +kernel, by decide +kernel⟩
abbrev s_law_path_drawn : Stmt := topS 14
theorem sc_law_path_drawn : FnScope ["_law_deck_here", "_law_way", "_law_many", "_law_great", "_law_long", "_law_found", "_law_k", "_law_corner_here", "_law_last"] ["_law_deck_here"] (defScope s_law_path_drawn) := ⟨rfl, rfl, rfl, by decide +kernel, rfl, by decide +kernel, by decide +kernel⟩
abbrev s_law_is_path : Stmt := topS 15
theorem sc_law_is_path : FnScope ["_law_thing", "_law_seen", "_law_corner_here"] ["_law_thing"] (defScope s_law_is_path) := ⟨rfl, rfl, rfl, by decide +kernel, rfl, by decide +kernel, by decide +kernel⟩
abbrev s_law_right : Stmt := topS 16
theorem sc_law_right : FnScope ["_law_thing", "_law_kept", "_law_due", "_law_once", "_law_found"] ["_law_thing"] (defScope s_law_right) := ⟨rfl, rfl, rfl, by decide +kernel, rfl, by decide +kernel, by decide +kernel⟩
abbrev slaw : Stmt := topS 17
theorem sclaw : FnScope ["_law_script", "_law_deck_here", "_law_deep", "_law_k", "_law_turn", "_law_spoils_here", "_law_path", "_law_at", "_law_to", "_law_things", "_law_way", "_law_place", "_law_what", "_law_more", "_law_thing"] ["_law_script"] (defScope slaw) := ⟨rfl, rfl, rfl, by decide +kernel, rfl, by decide +kernel, by decide +kernel⟩
structure Bt (mg : Str → Option Value) : Prop where
  isinstance : mg "isinstance" = none
  len : mg "len" = none
  all : mg "all" = none
  set : mg "set" = none
  list : mg "list" = none
  sum : mg "sum" = none
  tuple : mg "tuple" = none
  int : mg "int" = none
  bool : mg "bool" = none
  str : mg "str" = none
  range : mg "range" = none
  repr : mg "repr" = none
theorem cut63 {ns : List Int} (h : ns.length ≤ 63) : cutV (ns.map V.int) none (some 63) = ns.map V.int := by
  unfold cutV
  rw [HT.sIx_none, show HT.sIx (ns.map V.int).length (ns.map V.int).length (some 63) = min 63 (ns.map V.int).length from HT.sIx_nat _ _ 63, List.length_map]
  rw [List.drop_zero, List.take_of_length_le (by rw [List.length_map]; omega)]
section
variable {P : Program} {w : World} {K : PySem.W.Frag} {mg : Str → Option Value} {base : Heap}
theorem ok_law_deck {f : Addr} {fd : FuncData} (F : Fun K "_law_deck" "_law_deck" s_law_deck f fd) (T : Bt mg) :
    FnG P w K mg base CX0 1 f fd ["_law_script"] (spDeck K) := by
  refine okG (k := 0) F sc_law_deck (fun vs H Q E h => ?_) (fun cdv A outer s H vs Q E hr h => ?_)
  · obtain ⟨a, ns, rfl, _⟩ := h
    rfl
  · obtain ⟨a, ns, rfl, hS, hlen, q⟩ := h
    refine ⟨_, (pss_one (ps_ret (lstN (pa_cons (pe_revL (pe_callTy call_list_ofN (by rfl) T.list (by decide +kernel) (pa_cons (pe_slice sl_listN (pv 0) po_none (po_some pe_int)) pa_nil))) (pa_cons (pe_op op_add (pe_callB (cr_sum rfl) (by rfl) T.sum (by decide +kernel) (pa_cons (pe_lc (own := [("_law_cell", 1)]) (g := gName 1) (tt := tYes) (by rfl) sc_law_deck.nd (pi_list (pe_slice sl_listN (pv 0) po_none (po_some pe_int))) (blkOk_by (own := [("_law_cell", 1)]) (N := ["_law_script", "_law_cell"]) (sc := defScope s_law_deck) (by decide +kernel)) (fun _ _ _ _ _ => (pg_name (i := 1) sc_law_deck.nd rfl (.inl rfl))) (fun _ _ _ _ _ => pts_nil) (fun _ _ _ _ _ => (pe_op op_mod (pv 1) pe_int))) pa_nil)) (pe_op op_mul pe_int (pe_callB call_len_seq (by rfl) T.len (by decide +kernel) (pa_cons (pe_slice sl_listN (pv 0) po_none (po_some pe_int)) pa_nil)))) (pa_cons pe_int pa_nil)))))), ?_⟩
    -- list(script[:63])[::-1]
    refine ⟨.ref a, rfl, 63, rfl, a, _, rfl, hS, fun p1 H1 n1 s1 g1 => ⟨p1, _, rfl, .inl (.inl (.inl g1)), fun p2 H2 n2 s2 g2 => ⟨p2, _, rfl, .inl (.inl g2), fun l H3 n3 s3 g3 => ?_⟩⟩⟩
    have t3 : Same H H3 := (s1.trans s2).trans s3
    rw [cut63 hlen, ← List.map_reverse] at g3
    -- sum([cell % 1000003 for cell in script[:63]])
    refine ⟨.ref a, rfl, 63, rfl, a, _, rfl, t3.seq hS, fun p4 H4 n4 s4 g4 => ⟨p4, rfl, ⟨_, .inl (.inl g4)⟩, fun p5 n5 => ?_⟩⟩
    rw [cut63 hlen] at g4
    refine lcL (K := K) (a := p4) (xs := ns.map V.int) (fun i H' => Same H4 H' ∧ H' p5 = some (.lst ((ns.take i).map fun z => V.int (z % 1000003)))) n5 (fun H' e1 e2 => ⟨e1, e2⟩) (fun i H' _ z => .inl (.inl (z.1 _ _ g4))) (fun i x H' hx z => ?_) (fun H5 z => ?_)
    · obtain ⟨e1, e2⟩ := z
      rw [List.getElem?_map] at hx
      cases hn : ns[i]? with
      | none => rw [hn] at hx; cases hx
      | some y =>
        rw [hn] at hx
        cases hx
        refine ⟨rfl, _, rfl, _, _, rfl, rfl, (by show (0 : Int) < 1000003; decide), _, e2, ?_, ?_, ?_⟩
        · rw [List.length_map, List.length_take]
          exact small1000 (by omega)
        · intro b o e
          rw [upd_ne (ne_of_none e n5)]
          exact e1 _ _ e
        · rw [upd_same, List.take_add_one, hn, List.map_append]
          rfl
    · obtain ⟨e1, e2⟩ := z
      have l1 : (ns.map V.int).length = ns.length := List.length_map _
      rw [l1, List.take_length] at e2
      have t5 : Same H H5 := (t3.trans s4).trans e1
      refine ⟨p5, ns.map fun z => z % 1000003, rfl, .inl (.inl ?_), .ref a, rfl, 63, rfl, a, _, rfl, t5.seq hS, fun p6 H6 n6 s6 g6 => ?_⟩
      · rw [e2, List.map_map]
        rfl
      refine ⟨p6, _, rfl, .inl (.inl (.inl g6)), _, _, rfl, rfl, .inl (by decide), _, _, rfl, rfl, (by show 3 ≤ sizeLine; decide), fun d H7 n7 s7 g7 => ?_⟩
      have t37 : Same H3 H7 := ((s4.trans e1).trans s6).trans s7
      have hl : H7 l = some (.lst (ns.reverse.map V.int)) := t37 _ _ g3
      exact q d l H7 (((t5.trans s6)).trans s7) ⟨ne_of g7 hl (by intro z; cases hns : ns.reverse with
        | nil => rw [hns] at z; cases z
        | cons y r => rw [hns] at z; cases z), _, _, _, g7, hl, by rw [List.length_reverse]; exact hlen⟩

theorem ok_law_draw {f : Addr} {fd : FuncData} (F : Fun K "_law_draw" "_law_draw" s_law_draw f fd) (T : Bt mg) :
    FnG P w K mg base CX0 1 f fd ["_law_deck_here", "_law_most"] spDraw := by
  refine okG (k := 0) F sc_law_draw (fun vs H Q E h => ?_) (fun cdv A outer s H vs Q E hr h => ?_)
  · obtain ⟨d, l, m, rfl, _⟩ := h
    rfl
  · obtain ⟨d, l, m, rfl, hm, hm2, D, q⟩ := h
    refine ⟨_, (pss_cons (ps_asg (pe_op op_add (pe_ix ix_list (pv 0) pe_int (fun _ _ => rfl)) pe_int) (pg_sub (pv 0) pe_int set_list))
      (pss_cons (ps_set (i := 2) sc_law_draw.nd rfl (.inl rfl) (pe_ix ix_list (pv 0) pe_int (fun _ _ => rfl)))
      (cutS (ps_if (pt_cmpR (op_neD hr.room.units) (pe_ix ix_list (pv 0) pe_int (fun _ _ => rfl)) (lstN pa_nil) (nomark _)) (pss_cons (ps_set (i := 2) sc_law_draw.nd rfl (.inl rfl) (pe_bm0 PySem.F.plainAttrs_list PySem.F.slot_list_pop PySem.F.type_list_pop mt_pop (pe_ix ix_list (pv 0) pe_int (fun _ _ => rfl))))
      (pss_one (ps_if (pt_cmpR op_ge (pv 2) (pe_op op_pow pe_int pe_int) (nomark _)) (pss_cons (ps_expr (pe_bm PySem.F.plainAttrs_list PySem.F.slot_list_append PySem.F.type_list_append mt_append (pe_ix ix_list (pv 0) pe_int (fun _ _ => rfl)) (pa_cons (pe_op op_fdivW (pv 2) (pv 1)) pa_nil)))
      (pss_one (ps_ret (pe_op op_mod (pv 2) (pv 1))))) pss_nil))) pss_nil)
      (pss_cons (ps_set (i := 3) sc_law_draw.nd rfl (.inl rfl) (pe_op op_mod (pe_op op_mul (pe_op op_add (pe_op op_add (pe_op op_mod (pv 2) pe_int) (pe_op op_mul pe_int (pe_ix ix_list (pv 0) pe_int (fun _ _ => rfl)))) pe_int) pe_int) pe_int))
      (pss_cons (ps_set (i := 3) sc_law_draw.nd rfl (.inl rfl) (pe_op op_mod (pe_op op_add (pe_op op_add (pe_op op_mul (pv 3) (pv 3)) (pe_op op_mul pe_int (pe_ix ix_list (pv 0) pe_int (fun _ _ => rfl)))) pe_int) pe_int))
      (pss_one (ps_ret (pe_op op_mod (pe_op op_fdiv (pe_op op_mod (pe_op op_add (pe_op op_mul (pv 3) (pv 3)) pe_int) pe_int) pe_int) (pv 1))))))))), ?_⟩
    obtain ⟨ns, s0, c, h1, h2, h3⟩ := D.ex
    have dl := D.ne
    -- deck[2] = deck[2] + 1
    refine ⟨.ref d, rfl, d, _, 2, .int c, rfl, rfl, .inl (.inl h1), rfl, c, 1, rfl, rfl, .ref d, rfl, d, _, 2, 2, rfl, rfl, h1, rfl, ?_⟩
    generalize hU : upd H d (.lst ([V.ref l, .int s0, .int c].set 2 ((fun i j => V.int (i + j)) c 1))) = H1
    have g1 : H1 d = some (.lst [.ref l, .int s0, .int (c + 1)]) := by rw [← hU]; exact upd_same
    have g2 : H1 l = some (.lst (ns.map V.int)) := by rw [← hU, upd_ne dl.symm]; exact h2
    have g3 : ∀ b o, b ≠ d → b ≠ l → H b = some o → H1 b = some o := fun b o e1 _ e2 => by rw [← hU, upd_ne e1]; exact e2
    clear hU
    have fin : ∀ (ms : List Int) (H2 : Hp), ms.length ≤ 63 → H2 d = some (.lst [.ref l, .int s0, .int (c + 1)]) → H2 l = some (.lst (ms.map V.int)) →
        (∀ b o, b ≠ d → b ≠ l → H b = some o → Keep (H2 b) o) → Step d l H H2 := fun ms H2 e1 e2 e3 e4 => ⟨⟨dl, ms, s0, c + 1, e2, e3, e1⟩, fun b o e => by
          obtain ⟨n1, n2, n3⟩ := hide_at e
          rw [hide_ne n1 n2]
          exact e4 b o n1 n2 n3⟩
    -- cell = deck[1]
    refine ⟨.ref d, rfl, d, _, 1, .int s0, rfl, rfl, .inl (.inl g1), rfl, ?_⟩
    refine ⟨fun σ' H' => ∃ (cell : Int) (y : Option V) (ms : List Int), σ' = [some (.ref d), some (.int m), some (.int cell), y] ∧ ms.length ≤ 63 ∧
      H' d = some (.lst [.ref l, .int s0, .int (c + 1)]) ∧ H' l = some (.lst (ms.map V.int)) ∧ (∀ b o, b ≠ d → b ≠ l → H b = some o → Keep (H' b) o), ?_, ?_⟩
    · -- if deck[0] != []
      refine ⟨.ref d, rfl, d, _, 0, .ref l, rfl, rfl, .inl (.inl g1), rfl, Nat.zero_le _, fun pe HE ne se ge => ?_⟩
      have h1E := se _ _ g1
      have h2E := se _ _ g2
      have h3E : ∀ b o, b ≠ d → b ≠ l → H b = some o → Keep (HE b) o := fun b o e1 e2 e3 => se _ _ (g3 b o e1 e2 e3)
      refine ⟨_, _, .lst (.inl (.inl h2E)) (dpInts ns), .lst (.inl (.inl ge)) .nil, shapedInts ns, rfl, _, rfl, ?_⟩
      show if (!PyData.eqv (.list (ns.map PyData.int)) (.list [])) = true then _ else _
      rw [eqvNil]
      refine ite2 (fun e => ?_) (fun e => ?_)
      · have h0 : ns ≠ [] := fun z => by subst z; exact absurd e (by decide)
        obtain ⟨z, hz⟩ : ∃ z, ns[ns.length - 1]? = some z := by
          have : ns.length - 1 < ns.length := by cases ns with
            | nil => exact absurd rfl h0
            | cons a b => simp
          exact ⟨_, List.getElem?_eq_getElem this⟩
        -- cell = deck[0].pop()
        refine ⟨.ref d, rfl, d, _, 0, .ref l, rfl, rfl, .inl (.inl h1E), rfl, .inl ⟨rfl, _, .inl (.inl h2E)⟩, l, _, .int z, rfl, rfl, h2E, ?_, ?_⟩
        · rw [List.length_map, List.getElem?_map, hz]
          rfl
        have k1 : ns.dropLast.length < 63 := by
          rw [List.length_dropLast]
          have : ns.length ≠ 0 := fun z => h0 (List.length_eq_zero_iff.mp z)
          omega
        generalize hU : upd HE l (.lst (ns.map V.int).dropLast) = H2
        have u1 : H2 d = some (.lst [.ref l, .int s0, .int (c + 1)]) := by rw [← hU, upd_ne dl]; exact h1E
        have u2 : H2 l = some (.lst (ns.dropLast.map V.int)) := by rw [← hU, upd_same, dropLast_map]
        have u3 : ∀ b o, b ≠ d → b ≠ l → H b = some o → Keep (H2 b) o := fun b o e1 e2 e3 => by rw [← hU, upd_ne e2]; exact h3E b o e1 e2 e3
        clear hU
        refine ⟨.int z, rfl, _, _, rfl, rfl, ⟨by decide, by decide, by decide⟩, _, _, rfl, rfl, _, rfl, ite2 (fun e2 => ?_) (fun e2 => ?_)⟩
        · -- deck[0].append(cell // most); return cell % most
          refine ⟨.ref d, rfl, d, _, 0, .ref l, rfl, rfl, .inl (.inl u1), rfl, .inl ⟨rfl, _, .inl (.inl u2)⟩, .int z, rfl, .int m, rfl, _, _, rfl, rfl,
            wide_div (b := 64) hm (by omega) (by decide) (by decide), l, _, _, rfl, rfl, u2, ?_, ?_⟩
          · rw [List.length_map]
            exact small1000 (by omega)
          refine ⟨.int z, rfl, .int m, rfl, _, _, rfl, rfl, hm, q _ _ (Int.emod_nonneg _ (by omega)) (Int.emod_lt_of_pos _ hm) (fin (ns.dropLast ++ [z / m]) _ ?_ ?_ ?_ ?_)⟩
          · rw [List.length_append]; show _ + 1 ≤ 63; omega
          · rw [upd_ne dl]; exact u1
          · rw [upd_same, List.map_append]; rfl
          · intro b o e1 e2 e3
            rw [upd_ne e2]; exact u3 b o e1 e2 e3
        · exact ⟨z, none, ns.dropLast, rfl, by omega, u1, u2, u3⟩
      · exact ⟨s0, none, ns, rfl, h3, h1E, h2E, h3E⟩
    · rintro σ' H' ⟨cell, y, ms, rfl, e1, e2, e3, e4⟩
      have S := fin ms H' e1 e2 e3 e4
      have eD : SqL K H' d [.ref l, .int s0, .int (c + 1)] := .inl (.inl e2)
      refine ⟨_, rfl, _, _, rfl, rfl, (by show (0 : Int) < 2147483629; decide), .ref d, rfl, d, _, 2, .int (c + 1), rfl, rfl, eD, rfl, _, _, rfl, rfl, .inl (by decide),
        _, _, rfl, rfl, _, _, rfl, rfl, _, _, rfl, rfl, .inr (by decide), _, _, rfl, rfl, (by show (0 : Int) < 2147483647; decide), ?_⟩
      refine ⟨_, rfl, _, rfl, _, _, rfl, rfl, .inl (modlt (by decide) (by decide)), .ref d, rfl, d, _, 2, .int (c + 1), rfl, rfl, eD, rfl, _, _, rfl, rfl, .inl (by decide),
        _, _, rfl, rfl, _, _, rfl, rfl, _, _, rfl, rfl, (by show (0 : Int) < 2147483587; decide), ?_⟩
      refine ⟨_, rfl, _, rfl, _, _, rfl, rfl, .inl (modlt (by decide) (by decide)), _, _, rfl, rfl, _, _, rfl, rfl, (by show (0 : Int) < 2147483563; decide),
        _, _, rfl, rfl, ⟨by decide, by decide⟩, .int m, rfl, _, _, rfl, rfl, hm, q _ _ (Int.emod_nonneg _ (by omega)) (Int.emod_lt_of_pos _ hm) S⟩

end

section
variable {P : Program} {w : World} {K : PySem.W.Frag} {mg : Str → Option Value} {base : Heap}

theorem okis_whole {f : Addr} {fd : FuncData} (F : Fun K "is_whole" "is_whole" sis_whole f fd) (T : Bt mg) :
    FnG P w K mg base CX0 1 f fd ["thing"] (spWhole K) := by
  refine okG (k := 0) F scis_whole (fun vs H Q E h => ?_) (fun cdv A outer s H vs Q E hr h => ?_)
  · obtain ⟨v, T, rfl, _⟩ := h
    rfl
  · obtain ⟨v, U, rfl, hk, q⟩ := h
    refine ⟨_, (pss_one (ps_ret (pe_and (pe_callB call_isi (by rfl) T.isinstance (by decide +kernel) (pa_cons (pv 0) (pa_cons (pe_bltn (v := .ty "int") (by rfl) T.int (by decide +kernel) rfl) pa_nil))) (pe_one (pe_not (pe_callB call_isi (by rfl) T.isinstance (by decide +kernel) (pa_cons (pv 0) (pa_cons (pe_bltn (v := .ty "bool") (by rfl) T.bool (by decide +kernel) rfl) pa_nil)))))))), ?_⟩
    refine ⟨_, rfl, _, _, _, _, _, rfl, .ty _, hk.ty, kit_ty hk.int?, _, rfl, ?_⟩
    cases hb : isB v with
    | true =>
      have e : (isI v || true) = true := by cases isI v <;> rfl
      rw [e]
      refine iteT ⟨_, rfl, _, _, _, _, _, rfl, .ty _, hk.ty, kit_ty hk.bool?, _, rfl, ?_⟩
      rw [hb]
      have e2 : isI v = false := by cases v <;> first | rfl | cases hb
      rw [e2] at q
      exact q
    | false =>
      rw [Bool.or_false]
      cases hi : isI v with
      | false =>
        rw [hi] at q
        exact iteF q
      | true =>
        rw [hi] at q
        refine iteT ⟨_, rfl, _, _, _, _, _, rfl, .ty _, hk.ty, kit_ty hk.bool?, _, rfl, ?_⟩
        rw [hb]
        exact q

theorem ok_law_is_whole {f : Addr} {fd : FuncData} (F : Fun K "_law_is_whole" "_law_is_whole" s_law_is_whole f fd) (T : Bt mg) :
    FnG P w K mg base CX0 1 f fd ["_law_thing"] (spWhole K) := by
  refine okG (k := 0) F sc_law_is_whole (fun vs H Q E h => ?_) (fun cdv A outer s H vs Q E hr h => ?_)
  · obtain ⟨v, T, rfl, _⟩ := h
    rfl
  · obtain ⟨v, U, rfl, hk, q⟩ := h
    refine ⟨_, (pss_one (ps_ret (pe_and (pe_callB call_isi (by rfl) T.isinstance (by decide +kernel) (pa_cons (pv 0) (pa_cons (pe_bltn (v := .ty "int") (by rfl) T.int (by decide +kernel) rfl) pa_nil))) (pe_one (pe_not (pe_callB call_isi (by rfl) T.isinstance (by decide +kernel) (pa_cons (pv 0) (pa_cons (pe_bltn (v := .ty "bool") (by rfl) T.bool (by decide +kernel) rfl) pa_nil)))))))), ?_⟩
    refine ⟨_, rfl, _, _, _, _, _, rfl, .ty _, hk.ty, kit_ty hk.int?, _, rfl, ?_⟩
    cases hb : isB v with
    | true =>
      have e : (isI v || true) = true := by cases isI v <;> rfl
      rw [e]
      refine iteT ⟨_, rfl, _, _, _, _, _, rfl, .ty _, hk.ty, kit_ty hk.bool?, _, rfl, ?_⟩
      rw [hb]
      have e2 : isI v = false := by cases v <;> first | rfl | cases hb
      rw [e2] at q
      exact q
    | false =>
      rw [Bool.or_false]
      cases hi : isI v with
      | false =>
        rw [hi] at q
        exact iteF q
      | true =>
        rw [hi] at q
        refine iteT ⟨_, rfl, _, _, _, _, _, rfl, .ty _, hk.ty, kit_ty hk.bool?, _, rfl, ?_⟩
        rw [hb]
        exact q

theorem qw_is_whole {f : Addr} {fd : FuncData} (F : Fun K "is_whole" "is_whole" sis_whole f fd) (T : Bt mg) (b : Binds K fd ["thing"] []) : QW P w K mg f :=
  qw_of (k := 0) F scis_whole rfl rfl rfl rfl T.isinstance T.int T.bool rfl b

theorem okare_wholes {f c Pt : Addr} {fd : FuncData} (F : Fun K "are_wholes" "are_wholes" sare_wholes f fd) (hc : fd.code = .ref c) (TB : GxR.TabB base mg c Pt) (T : Bt mg) {fw : Addr} (W : QW P w K mg fw) (hW : mg "is_whole" = some (.ref fw)) (kW : PySem.W.keepIn K (.ref fw) = true) :
    FnG P w K mg base CX0 3 f fd ["thing", "many"] (spAre K Pt) := by
  refine okGT (k := 2) F hc scare_wholes (fun vs H Q E h => ?_) (fun A outer s H vs Q E hr h => ?_)
  · obtain ⟨v, m, u, rfl, _⟩ := h
    rfl
  · obtain ⟨v, m, u, rfl, hT, hv, q⟩ := h
    refine ⟨_, (pss_one (ps_ret (pe_and (pe_callB call_isi (by rfl) T.isinstance (by decide +kernel) (pa_cons (pv 0) (pa_cons (pe_bltn (v := .ty "tuple") (by rfl) T.tuple (by decide +kernel) rfl) pa_nil))) (pe_and (pe_cmpR op_eq (pe_callB call_len_seq (by rfl) T.len (by decide +kernel) (pa_cons (pv 0) pa_nil)) (pv 1) (nomark _)) (pe_one (pe_allW hr.room (roomD hr.room) (by rfl) T.all TB rfl W hW kW (pv 0) (genS rfl rfl (by decide +kernel) rfl rfl) rfl)))))), ?_⟩
    cases u with
    | none =>
      obtain ⟨U, hk, nt⟩ := hv
      refine ⟨_, rfl, _, _, _, _, _, rfl, .ty _, hk.ty, kit_ty hk.tuple?, _, rfl, ?_⟩
      rw [decide_eq_false nt]
      exact iteF (q _ (.refl _))
    | some xs =>
      obtain ⟨a, rfl, hS, hp⟩ := hv
      refine ⟨_, rfl, _, _, _, _, _, rfl, .ty _, (Kd.tup hS).ty, kit_ty (Kd.tup hS).tuple?, _, rfl, iteT ?_⟩
      refine ⟨_, rfl, a, _, rfl, .inr hS, _, rfl, rfl, _, rfl, ite2 (fun e => ?_) (fun e => ?_)⟩
      · have hw : wholes (some xs) m = (xs.map isI).all id := by
          show (decide ((xs.length : Int) = m) && xs.all isI) = _
          rw [show decide ((xs.length : Int) = m) = true from decide_eq_true (V.int.inj (of_decide_eq_true e)), Bool.true_and, List.all_map]
          rfl
        refine ⟨_, rfl, a, xs, xs.map isI, rfl, hS, by simp, fun i x b hx hb => ?_, trivial, hT, fun H2 s t => ?_⟩
        · obtain ⟨U, hk⟩ := hp x (List.mem_of_getElem? hx)
          refine ⟨U, hk, ?_⟩
          rw [List.getElem?_map, hx] at hb
          exact (Option.some.inj hb).symm
        · have := q H2 s
          rw [hw] at this
          exact this
      · have hw : wholes (some xs) m = false := by
          show (decide ((xs.length : Int) = m) && xs.all isI) = _
          rw [show decide ((xs.length : Int) = m) = false from decide_eq_false fun z => e (decide_eq_true (by rw [z])), Bool.false_and]
        have := q H (.refl _)
        rw [hw] at this
        exact this

end
end Cl

set_option maxHeartbeats 0
namespace Cl
open PySem PySem.Spec PyProof.Rows L2
open GxR (TabB TabG)


def keyD : PyData → List Int
  | .tuple [.int a, .int b] => [a, b]
  | _ => []
def pathD : PyData → Bool
  | .tuple ds => !ds.isEmpty && (ds.all ptD && decide ((ds.map keyD).Nodup))
  | _ => false
theorem pathD_no {t : PyData} (h : ∀ ds, t ≠ .tuple ds) : pathD t = false := by
  unfold pathD
  split
  · exact absurd rfl (h _)
  · rfl
theorem Dh.pt {K : PySem.W.Frag} {H : Hp} {v : V} {a b : Int} (h : Dh K H v (.tuple [.int a, .int b])) : ∃ p, v = .ref p ∧ H p = some (.tup [.int a, .int b]) := by
  cases h with
  | tup h1 h2 =>
    cases h2 with
    | cons h3 h4 =>
      cases h3
      cases h4 with
      | cons h5 h6 =>
        cases h5
        cases h6
        exact ⟨_, rfl, h1⟩
theorem keys_dh {K : PySem.W.Frag} {H : Hp} : ∀ {xs : List V} {ds : List PyData}, DhAll K H xs ds → ds.all ptD = true → ∃ ks : List (Addr × List Int), xs = ks.map (fun p => V.ref p.1) ∧ ks.map (·.2) = ds.map keyD ∧ ∀ p ∈ ks, SG.elF K H p.1 p.2
  | _, _, .nil, _ => ⟨[], rfl, rfl, fun _ z => nomatch z⟩
  | _, _, .cons (d := d) h t, e => by
    rw [List.all_cons, Bool.and_eq_true] at e
    obtain ⟨ks, e1, e2, e3⟩ := keys_dh t e.2
    obtain ⟨a, b, rfl⟩ := ptD_ints e.1
    obtain ⟨p, rfl, hp⟩ := h.pt
    refine ⟨(p, [a, b]) :: ks, by rw [e1]; rfl, by rw [List.map_cons, List.map_cons, e2]; rfl, fun q hq => ?_⟩
    rcases List.mem_cons.mp hq with rfl | hq
    · exact .inl (.inl hp)
    · exact e3 q hq
theorem DhAll.at {K : PySem.W.Frag} {H : Hp} : ∀ {xs : List V} {ds : List PyData} {k : Nat} {x : V}, DhAll K H xs ds → xs[k]? = some x → ∃ y, ds[k]? = some y ∧ Dh K H x y
  | _, _, k, _, .nil, e => by simp at e
  | _, _, 0, _, .cons h1 _, e => by
    cases e
    exact ⟨_, rfl, h1⟩
  | _, _, k + 1, _, .cons (vs := vs) _ h2, e => DhAll.at (k := k) h2 (by rw [← e]; rfl)
theorem nodup_len20 {α : Type} [DecidableEq α] : ∀ (ms L : List α), ms.Nodup → (∀ x ∈ ms, x ∈ L) → ms.length ≤ L.length
  | [], _, _, _ => Nat.zero_le _
  | a :: ms, L, nd, h => by
    obtain ⟨n1, n2⟩ := List.nodup_cons.mp nd
    have ha := h a List.mem_cons_self
    have := nodup_len20 ms (L.erase a) n2 fun x hx => (List.mem_erase_of_ne (fun z => n1 (by rw [← z]; exact hx))).mpr (h x (List.mem_cons_of_mem _ hx))
    rw [List.length_erase_of_mem ha] at this
    have p : 0 < L.length := List.length_pos_of_mem ha
    rw [List.length_cons]
    omega
theorem nodup_of_len {α : Type} [DecidableEq α] : ∀ (L M : List α), L.Nodup → (∀ x ∈ L, x ∈ M) → M.length ≤ L.length → M.Nodup
  | [], M, _, _, hl => by
    cases M with
    | nil => exact .nil
    | cons _ _ => exact absurd hl (Nat.not_succ_le_zero _)
  | a :: L, M, nd, h, hl => by
    obtain ⟨n1, n2⟩ := List.nodup_cons.mp nd
    have ha := h a List.mem_cons_self
    have p : 0 < M.length := List.length_pos_of_mem ha
    have sub : ∀ x ∈ L, x ∈ M.erase a := fun x hx => (List.mem_erase_of_ne (fun z => n1 (by rw [← z]; exact hx))).mpr (h x (List.mem_cons_of_mem _ hx))
    have le : (M.erase a).length ≤ L.length := by
      rw [List.length_erase_of_mem ha]
      rw [List.length_cons] at hl
      omega
    have ih := nodup_of_len L (M.erase a) n2 sub le
    have na : a ∉ M.erase a := fun z => by
      have := nodup_len20 (a :: L) (M.erase a) nd fun x hx => by
        rcases List.mem_cons.mp hx with rfl | hx
        · exact z
        · exact sub x hx
      rw [List.length_cons] at this
      omega
    exact (List.perm_cons_erase ha).nodup_iff.mpr (List.nodup_cons.mpr ⟨na, ih⟩)
def spIsP (K : PySem.W.Frag) (P P2 : Addr) : Sp := fun vs H Q _ => ∃ v t, vs = [v] ∧ TabG H P ∧ TabG H P2 ∧ Dh K H v t ∧ (∀ ds, t = .tuple ds → ds.length < 2048) ∧ ∀ H', Same H H' → Q (.bl (pathD t)) H'

section
variable {P : Program} {w : World} {K : PySem.W.Frag} {mg : Str → Option Value} {base : Heap}

theorem okis_path {f c Pt Pa : Addr} {fd : FuncData} (F : Fun K "is_path" "is_path" sis_path f fd) (hc : fd.code = .ref c) (TB : GxR.TabB base mg c Pt) (T : Bt mg) (Dare_wholes : Def P w K mg base 3 "are_wholes" ["thing", "many"] (spAre K Pa)) :
    FnG P w K mg base CX0 6 f fd ["thing"] (spIsP K Pa Pt) := by
  refine okGT (k := 5) F hc scis_path (fun vs H Q E h => ?_) (fun A outer s H vs Q E hr h => ?_)
  · obtain ⟨v, t, rfl, _⟩ := h
    rfl
  · obtain ⟨v, t, rfl, hTa, hT, hv, hl, q⟩ := h
    refine ⟨_, (pss_cons (ps_if (PW.pt (pw_or (pt_not (pt_val (pe_callB call_isi (by rfl) T.isinstance (by decide +kernel) (pa_cons (pv 0) (pa_cons (pe_bltn (v := .ty "tuple") (by rfl) T.tuple (by decide +kernel) rfl) pa_nil))))) (pw_or1 (pt_cmpR (op_eqTNil hr.room.units) (pv 0) (tupN pa_nil) (nomark _))))) (pss_one (ps_ret pe_bl)) pss_nil)
      (pss_one (ps_ret (pe_and (pe_allN (k := 3) (c := c) (P := Pt) hr (by rfl) T.all TB rfl (genK_by (sc := defScope sis_path) (by decide +kernel)) (show ¬ ("part" : Str) ∈ (["thing"] : List Str) from by decide) (show ¬ (".0" : Str) ∈ (["thing"] : List Str) from by decide) scis_path.nd (pv 0) (fun s1 H1 C code hr2 => callD Dare_wholes (hr2.mono (by decide)) (pa_cons (pe_var (i := 0) rfl (.inl rfl)) (pa_cons pe_int pa_nil)))) (pe_one (pe_cmpR op_eq (pe_callB (SG.cr_lenG (knd := SG.flatK _ _) (el := SG.elF K) (fun I h => SG.elF_is I h)) (by rfl) T.len (by decide +kernel) (pa_cons (pe_callTy (SG.cr_setTG (knd := SG.flatK _ _) (el := SG.elF K) rfl hr.room.units (by show 0 ≤ 50; decide) (fun I h => SG.elF_is I h)) (by rfl) T.set (by decide +kernel) (pa_cons (pv 0) pa_nil)) pa_nil)) (pe_callB call_len_seq (by rfl) T.len (by decide +kernel) (pa_cons (pv 0) pa_nil)) (nomark _))))))), ?_⟩
    obtain ⟨U, hk, ht, _⟩ := hv.kd
    refine ⟨_, rfl, _, _, _, _, _, rfl, .ty _, hk.ty, kit_ty hk.tuple?, _, rfl, ?_⟩
    by_cases e0 : U = "tuple"
    · obtain ⟨ds, rfl⟩ := ht.mp e0
      rw [decide_eq_true e0]
      cases hv with
      | @tup a xs _ hS hall =>
      have lx := hall.len
      have l48 := hl ds rfl
      refine iteF ⟨_, rfl, Nat.zero_le _, fun p1 H1 n1 s1 e1 => ⟨a, p1, xs, rfl, rfl, seT s1 (.inl (.inl hS)), .inl (.inl e1), _, rfl, ?_⟩⟩
      cases hE : xs.isEmpty
      · refine iteF ?_
        refine ⟨_, rfl, a, xs, fun i => ptD (ds.getD i .none), fun i H' => Same H H' ∧ TabG H' Pt, rfl, .inl (.inl (s1 _ _ hS)), s1.tab hT, fun i H' z => .inl (.inl (z.1 _ _ hS)), fun H2 s2 t2 => ⟨s1.trans s2, t2⟩, fun i x H2 hx z => ?_, fun i H2 hi hb z => ?_, fun H2 hb z => ?_⟩
        · obtain ⟨y, ey, hy⟩ := hall.at hx
          obtain ⟨o, ho, hw⟩ := (hy.same z.1).th
          refine ⟨_, rfl, x, 2, o, rfl, z.1.tab hTa, ho, fun H3 s3 => ⟨?_, z.1.trans s3, s3.tab z.2⟩⟩
          show V.bl (wholes o 2) = V.bl (ptD (ds.getD i .none))
          rw [hw, wholesD_2, List.getD_eq_getElem?_getD, ey]
          rfl
        · have hb : ptD (ds.getD i .none) = false := hb
          have := q H2 z.1
          rw [show pathD (.tuple ds) = false from by
            have e3 : ds.all ptD = false := Bool.eq_false_iff.mpr fun e => by
              have := List.all_eq_true.mp e (ds.getD i .none) (by rw [List.getD_eq_getElem?_getD, List.getElem?_eq_getElem (by omega : i < ds.length)]; exact List.getElem_mem _)
              rw [this] at hb
              cases hb
            show (!ds.isEmpty && (ds.all ptD && _)) = false
            rw [e3, Bool.false_and, Bool.and_false]] at this
          exact ⟨_, rfl, iteF this⟩
        · have e3 : ds.all ptD = true := List.all_eq_true.mpr fun y hy => by
            obtain ⟨i, hi, e⟩ := List.getElem_of_mem hy
            have : ptD (ds.getD i .none) = true := hb i (by omega)
            rw [List.getD_eq_getElem?_getD, List.getElem?_eq_getElem hi] at this
            rw [← e]
            exact this
          have all2 := hall.same z.1
          obtain ⟨ks, k1, k2, k3⟩ := keys_dh all2 e3
          have lk : ks.length = ds.length := by
            have := congrArg List.length k2
            rwa [List.length_map, List.length_map] at this
          have hS2 := z.1 _ _ hS
          rw [k1] at hS2
          refine ⟨_, rfl, iteT ?_⟩
          refine ⟨_, rfl, a, ks, rfl, .inl (.inl hS2), k3, by omega, fun aS HS L sS nS gS ndL sub sup => ?_⟩
          refine ⟨aS, L, rfl, gS, fun p hp => seT sS (k3 p (sub p hp)), ?_⟩
          refine ⟨_, rfl, a, _, rfl, .inr (.inl (.inl (sS _ _ hS2))), ?_⟩
          have := q HS (z.1.trans sS)
          rw [show pathD (.tuple ds) = decide ((V.int (L.length : Nat)) = V.int ((ks.map fun p => V.ref p.1).length : Nat)) from by
            show (!ds.isEmpty && (ds.all ptD && decide ((ds.map keyD).Nodup))) = _
            have ne : ds.isEmpty = false := by
              cases ds with
              | nil => rw [List.length_nil] at lx; rw [List.length_eq_zero_iff.mp lx] at hE; cases hE
              | cons _ _ => rfl
            rw [ne, e3, ← k2]
            show decide _ = decide _
            refine decide_eq_decide.mpr ⟨fun h => ?_, fun h => ?_⟩
            · have h1 := nodup_len20 (L.map (·.2)) (ks.map (·.2)) ndL fun x hx => by
                obtain ⟨p, hp, rfl⟩ := List.mem_map.mp hx
                exact List.mem_map.mpr ⟨p, sub p hp, rfl⟩
              have h2 := nodup_len20 (ks.map (·.2)) (L.map (·.2)) h fun x hx => by
                obtain ⟨p, hp, rfl⟩ := List.mem_map.mp hx
                exact sup p hp
              rw [List.length_map, List.length_map] at h1 h2
              rw [List.length_map]
              congr 2
              omega
            · injection h with h
              rw [List.length_map] at h
              exact nodup_of_len (L.map (·.2)) (ks.map (·.2)) ndL (fun x hx => by
                obtain ⟨p, hp, rfl⟩ := List.mem_map.mp hx
                exact List.mem_map.mpr ⟨p, sub p hp, rfl⟩) (by rw [List.length_map, List.length_map]; omega)] at this
          exact ⟨rfl, this⟩
      · have := q H1 s1
        rw [show pathD (.tuple ds) = false from by
          cases ds with
          | nil => rfl
          | cons _ _ =>
            cases xs with
            | nil => cases lx
            | cons _ _ => cases hE] at this
        exact iteT this
    · have := q H (.refl _)
      rw [pathD_no fun ds e => e0 (ht.mpr ⟨ds, e⟩)] at this
      rw [decide_eq_false e0]
      exact iteT (iteT this)

end
end Cl

set_option maxHeartbeats 0
namespace Cl
open PySem PySem.Spec PyProof.Rows L2
open GxR (TabB TabG)


theorem len_bulk : ∀ ds : List PyData, ds.length ≤ PyData.bulkAll ds
  | [] => Nat.zero_le _
  | d :: ds => by
    have := len_bulk ds
    show ds.length + 1 ≤ d.bulk + 1 + PyData.bulkAll ds
    omega
theorem bulk_tk {ds : List PyData} {i : Nat} {y : PyData} (h : ds[i]? = some y) : PyData.bulkAll (ds.take (i + 1)) = PyData.bulkAll (ds.take i) + (y.bulk + 1) := by
  rw [List.take_succ, h, Option.toList_some, bulk_app]
  rfl
theorem acc_new2 {H5 H' : Hp} {pD : Addr} {ws : List V} {y : V} (nD : H5 pD = none) (t1 : Same H5 H') (e : H' pD = some (.lst ws)) (len : ws.length ≤ 200000) :
    ∃ acc, H' pD = some (.lst acc) ∧ acc.length < sizeLine ∧ Same H5 (upd H' pD (.lst (acc ++ [y]))) ∧ (upd H' pD (.lst (acc ++ [y]))) pD = some (.lst (ws ++ [y])) := by
  refine ⟨ws, e, by rw [sizeLine_eq]; omega, fun b o z => ?_, upd_same⟩
  rw [upd_ne (ne_of_none z nD)]
  exact t1 _ _ z
theorem fits {n : Nat} (h : n ≤ 200000) : n ≤ sizeLine := by rw [sizeLine_eq]; omega
def tl : PyData → Nat
  | .tuple ds => ds.length
  | _ => 0
theorem At.tl {x z y : PyData} {q : List Nat} (a : At x q z) (h : Cl.tl y ≤ Cl.tl z + 2) : Cl.tl (putD q x y) ≤ Cl.tl x + 2 := by
  cases a with
  | here => exact h
  | @sub ds k y0 _ q0 e a0 =>
    have hk : k < ds.length := (List.getElem?_eq_some_iff.mp e).1
    show (ds.take k ++ [putD q0 (ds.getD k .none) y] ++ ds.drop (k + 1)).length ≤ ds.length + 2
    simp only [List.length_append, List.length_take, List.length_drop, List.length_cons, List.length_nil]
    omega
/-- a tuple is none of a list's -/
theorem hidT {M p : Addr} {H : Hp} {xs zs : List V} (e : H p = some (.tup xs)) (eM : H M = some (.lst zs)) : hidL M H p = some (.tup xs) := by
  rw [hidL_ne (ne_of e eM (by intro z; cases z))]
  exact e
theorem hidN {M p : Addr} {H H' : Hp} {o : HO} {zs : List V} (n : H p = none) (eM : H M = some (.lst zs)) (e : H' p = some o) : hidL M H' p = some o := by
  rw [hidL_ne (ne_of_none eM n).symm]
  exact e
def spWith (K : PySem.W.Frag) (m : Nat) : Sp := fun vs H Q _ => ∃ M zs v u w x q z y, vs = [v, u, w] ∧ H M = some (.lst zs) ∧ Dh K (hidL M H) v x ∧ AtQ K H u q ∧ At x q z ∧ x.bulk ≤ 60000 ∧ q.length < m ∧ Dh K (hidL M H) w y ∧
  ∀ w' H', Same H H' → Dh K (hidL M H') w' (putD q x y) → Q w' H'
def spSpots (K : PySem.W.Frag) (m : Nat) : Sp := fun vs H Q _ => ∃ v x p n, vs = [v] ∧ Dh K H v x ∧ Gk p n x ∧ n < m ∧ x.bulk ≤ 60000 ∧
  ∀ L H' us ps, Same H H' → H' L = some (.lst us) → AllAt (AtQ K H') us ps → ps ≠ [] → ps.length ≤ x.bulk + 1 → (∀ q ∈ ps, ∃ z, At x q z) → Q (.ref L) H'
theorem FnG_im {P : Program} {w : World} {K : PySem.W.Frag} {mg : Str → Option Value} {base : Heap} {k : Nat} {f : Addr} {fd : FuncData} {ps : List Str} {A B : Sp} (h1 : FnG P w K mg base CX0 k f fd ps A) (h : ∀ vs H Q E, B vs H Q E → A vs H Q E) :
    FnG P w K mg base CX0 k f fd ps B :=
  ⟨fun a b c d z => h1.1 a b c d (h _ _ _ _ z), fun a b c d e f g h' i j k l m z => h1.2 a b c d e f g h' i j k l m (h _ _ _ _ z)⟩
theorem spots_zero {P : Program} {w : World} {K : PySem.W.Frag} {mg : Str → Option Value} {base : Heap} {k : Nat} {f : Addr} {fd : FuncData} {ps : List Str} : FnG P w K mg base CX0 k f fd ps (spSpots K 0) :=
  FnG_im never fun _ _ _ _ ⟨_, _, _, _, _, _, _, h, _⟩ => absurd h (Nat.not_lt_zero _)
theorem with_zero {P : Program} {w : World} {K : PySem.W.Frag} {mg : Str → Option Value} {base : Heap} {k : Nat} {f : Addr} {fd : FuncData} {ps : List Str} : FnG P w K mg base CX0 k f fd ps (spWith K 0) :=
  FnG_im never fun _ _ _ _ ⟨_, _, _, _, _, _, _, _, _, _, _, _, _, _, _, h, _⟩ => absurd h (Nat.not_lt_zero _)

section
variable {P : Program} {w : World} {K : PySem.W.Frag} {mg : Str → Option Value} {base : Heap}

theorem ok_law_with {f : Addr} {fd : FuncData} (F : Fun K "_law_with" "_law_with" s_law_with f fd) (T : Bt mg) {m k : Nat} (D_law_with : Def P w K mg base k "_law_with" ["_law_thing", "_law_spot", "_law_part"] (spWith K m)) :
    FnG P w K mg base CX0 (k + 1) f fd ["_law_thing", "_law_spot", "_law_part"] (spWith K (m + 1)) := by
  refine okG (k := k) F sc_law_with (fun vs H Q E h => ?_) (fun cdv A outer s H vs Q E hr h => ?_)
  · obtain ⟨M, zs, v, u, w, x, q, z, y, rfl, _⟩ := h
    rfl
  · obtain ⟨M, zs, v, u, w, x, q, z, y, rfl, eM, hv, hu, ha, hb, hm, hw, q1⟩ := h
    refine ⟨_, (pss_cons (ps_if (pt_cmpR (op_eqTNil hr.room.units) (pv 1) (tupN pa_nil) (nomark _)) (pss_one (ps_ret (pv 2))) pss_nil)
      (pss_cons (ps_set (i := 3) sc_law_with.nd rfl (.inl rfl) (pe_ix ix_tup (pv 1) pe_int (fun _ _ => rfl)))
      (pss_one (ps_ret (pe_op op_catTH (pe_op op_catTH (pe_slice sl_tupH (pv 0) po_none (po_some (pv 3))) (tupN (pa_cons (callD D_law_with (hr.mono (Nat.le_refl _)) (pa_cons (pe_ix ix_tup (pv 0) (pv 3) (fun _ _ => rfl)) (pa_cons (pe_slice sl_tupB (pv 1) (po_some pe_int) po_none) (pa_cons (pv 2) pa_nil)))) pa_nil))) (pe_slice sl_tupH (pv 0) (po_some (pe_op op_add (pv 3) pe_int)) po_none)))))), ?_⟩
    obtain ⟨b, rfl, hS⟩ := hu
    refine ⟨_, rfl, Nat.zero_le _, fun p1 H1 n1 s1 e1 => ?_⟩
    refine ⟨b, p1, _, rfl, rfl, seT s1 hS, .inl (.inl e1), _, rfl, ?_⟩
    cases ha with
    | here => exact iteT ⟨_, rfl, q1 _ _ s1 (hw.same s1.hidL)⟩
    | @sub ds k y0 z0 q0 e a0 =>
      refine iteF ?_
      cases hv with
      | @tup a xs _ hT hall =>
      obtain ⟨v0, ev, hv0⟩ := dhs_get hall e
      have lx := hall.len
      have lb := len_bulk ds
      have hb2 : PyData.bulkAll ds ≤ 60000 := hb
      have hTh := hT
      have hT := (hidL_at hTh).2
      have hk : k < xs.length := (List.getElem?_eq_some_iff.mp ev).1
      have eg : ds.getD k .none = y0 := by rw [List.getD_eq_getElem?_getD, e]; rfl
      refine ⟨.ref b, rfl, b, _, 0, _, rfl, rfl, seT s1 hS, atI_nat (j := 0) rfl, ?_⟩
      refine ⟨.ref a, rfl, _, rfl, _, rfl, a, xs, rfl, (s1 _ _ hT), fun p2 H2 s2 e2 => ?_⟩
      rw [cutV_take] at e2
      have S2 := s1.trans s2
      refine ⟨.ref a, rfl, _, rfl, a, xs, _, v0, rfl, rfl, .inl (.inl (S2 _ _ hT)), atI_nat ev, ?_⟩
      refine ⟨.ref b, rfl, _, rfl, b, _, rfl, seT S2 hS, fun p3 H3 s3 e3 => ?_⟩
      rw [cut_rest] at e3
      have S3 := S2.trans s3
      refine ⟨_, rfl, M, zs, v0, .ref p3, w, y0, q0, z, y, rfl, S3 _ _ eM, hv0.same S3.hidL, ⟨p3, rfl, e3⟩, a0, by have := bulk_mem (List.mem_of_getElem? e); have hb : PyData.bulkAll ds ≤ 60000 := hb; omega, by simp at hm; omega, hw.same S3.hidL, fun w4 H4 s4 hw4 => ?_⟩
      refine ⟨(by show 1 ≤ sizeLine; decide), fun p5 H5 n5 s5 e5 => ?_⟩
      have S5 := s3.trans (s4.trans s5)
      have hL1 : (xs.take k).length + [w4].length ≤ sizeLine := fits (by rw [List.length_take]; show _ + 1 ≤ _; omega)
      have hL2 : (xs.take k ++ [w4]).length + (xs.drop (k + 1)).length ≤ sizeLine := fits (by rw [List.length_append, List.length_take, List.length_drop]; show _ + 1 + _ ≤ _; omega)
      refine ⟨p2, p5, _, _, rfl, rfl, (S5 _ _ e2), e5, hL1, fun p6 H6 s6 e6 => ?_⟩
      refine ⟨.ref a, rfl, _, rfl, _, _, rfl, rfl, _, rfl, a, xs, rfl, ((S2.trans (S5.trans s6)) _ _ hT), fun p7 H7 s7 e7 => ?_⟩
      rw [show ((k : Nat) : Int) + 1 = ((k + 1 : Nat) : Int) from rfl, cutV_drop] at e7
      refine ⟨p6, p7, _, _, rfl, rfl, (s7 _ _ e6), e7, hL2, fun p8 H8 s8 e8 => ?_⟩
      have SS := S2.trans (S5.trans (s6.trans (s7.trans s8)))
      have hall8 := hall.same SS.hidL
      refine q1 _ _ SS ?_
      show Dh K (hidL M H8) (.ref p8) (.tuple (ds.take k ++ [putD q0 (ds.getD k .none) y] ++ ds.drop (k + 1)))
      rw [eg]
      exact .tup (hidT e8 (SS _ _ eM)) (DhAll.app (DhAll.app (dhs_take k hall8) (.cons (hw4.same (s5.trans (s6.trans (s7.trans s8))).hidL) .nil)) (dhs_drop (k + 1) hall8))

theorem ok_law_spots {f : Addr} {fd : FuncData} (F : Fun K "_law_spots" "_law_spots" s_law_spots f fd) (T : Bt mg) {m k : Nat} (hm2 : m ≤ 200) (D_law_spots : Def P w K mg base k "_law_spots" ["_law_thing"] (spSpots K m)) :
    FnG P w K mg base CX0 (k + 1) f fd ["_law_thing"] (spSpots K (m + 1)) := by
  refine okG (k := k) F sc_law_spots (fun vs H Q E h => ?_) (fun cdv A outer s H vs Q E hr h => ?_)
  · obtain ⟨v, x, p, n, rfl, _⟩ := h
    rfl
  · obtain ⟨v, x, p, n, rfl, hv, gd, hm, hb, q1⟩ := h
    refine ⟨_, (pss_cons (ps_set (i := 1) sc_law_spots.nd rfl (.inl rfl) (lstN (pa_cons (tupN pa_nil) pa_nil)))
      (pss_cons (ps_if (pt_val (pe_callB call_isi (by rfl) T.isinstance (by decide +kernel) (pa_cons (pv 0) (pa_cons (pe_bltn (v := .ty "tuple") (by rfl) T.tuple (by decide +kernel) rfl) pa_nil)))) (pss_one (ps_for PassesOwn.never rfl (pi_range1 (by rfl) T.range (pa_cons (pe_callB call_len_seq (by rfl) T.len (by decide +kernel) (pa_cons (pv 0) pa_nil)) pa_nil)) (pg_name (i := 2) sc_law_spots.nd rfl (.inr rfl)) (pss_one (ps_expr (pe_bm PySem.F.plainAttrs_list PySem.F.slot_list_extend PySem.F.type_list_extend mt_extend (pv 1) (pa_cons (pe_lc (own := [("_law_spot", 3)]) (g := gName 3) (tt := tYes) (by rfl) sc_law_spots.nd (pi_list (callD D_law_spots (hr.mono (Nat.le_refl _)) (pa_cons (pe_ix ix_tup (pv 0) (pv 2) (fun _ _ => rfl)) pa_nil))) (blkOk_by (own := [("_law_spot", 3)]) (N := ["_law_thing", "_law_found", "_law_k", "_law_spot"]) (sc := defScope s_law_spots) (by decide +kernel)) (fun _ _ _ _ _ => (pg_name (i := 3) sc_law_spots.nd rfl (.inl rfl))) (fun _ _ _ _ _ => pts_nil) (fun _ _ _ _ _ => (pe_op (op_catTBk (K := K) rfl) (tupN (pa_cons (pv 2) pa_nil)) (pv 3)))) pa_nil)))))) pss_nil)
      (pss_one (ps_ret (pv 1))))), ?_⟩
    refine ⟨Nat.zero_le _, fun p1 H1 n1 s1 e1 => ⟨(by show 1 ≤ sizeLine; decide), fun L H2 n2 s2 e2 => ?_⟩⟩
    have S2 := s1.trans s2
    obtain ⟨U, hk, ht, _⟩ := (hv.same S2).kd
    by_cases e0 : U = "tuple"
    · obtain ⟨ds, rfl⟩ := ht.mp e0
      cases hv with
      | @tup a xs _ hT hall =>
      cases gd with
      | lf h => exact h.elim
      | @tup n _ hx =>
      have lx := hall.len
      have lb := len_bulk ds
      have hb2 : PyData.bulkAll ds ≤ 60000 := hb
      have hT1 := s1 _ _ hT
      have hall1 := hall.same s1
      refine ⟨_, rfl, _, _, _, _, _, rfl, .ty _, (Kd.tup (K := K) (show SqT K H2 a xs from .inl (.inl (S2 _ _ hT)))).ty, kit_ty (Kd.tup (K := K) (show SqT K H2 a xs from .inl (.inl (S2 _ _ hT)))).tuple?, _, rfl, iteT ?_⟩
      refine ⟨_, rfl, a, xs, rfl, .inr (.inl (.inl (S2 _ _ hT))), xs.length, rfl, (by omega), (by omega), for_range (n := xs.length) (fun i σ H' => ∃ y2 y3 us ps, σ = [some (.ref a), some (.ref L), y2, y3] ∧ Same H1 H' ∧ H' L = some (.lst us) ∧ AllAt (AtQ K H') us ps ∧ ps ≠ [] ∧ ps.length ≤ 1 + PyData.bulkAll (ds.take i) ∧ ∀ q ∈ ps, ∃ z, At (.tuple ds) q z) ?_ ?_ ?_⟩
      · exact ⟨_, _, [.ref p1], [[]], rfl, s2, e2, .cons ⟨p1, rfl, .inl (.inl (s2 _ _ e1))⟩ .nil, by simp, by simp, at_nil⟩
      · rintro i σ H3 hi ⟨y2, y3, us, ps, rfl, s3, eL, all, ne, len, good⟩
        obtain ⟨y0, ey0⟩ : ∃ y0, ds[i]? = some y0 := ⟨_, List.getElem?_eq_getElem (show i < ds.length by omega)⟩
        obtain ⟨v0, ev, hv0⟩ := dhs_get (hall1.same s3) ey0
        have e0i : V.int (0 + (i : Int)) = ki i := by rw [Int.zero_add]; rfl
        refine ⟨.ref L, rfl, .inl ⟨rfl, _, .inl (.inl eL)⟩, ?_⟩
        refine ⟨_, rfl, _, rfl, a, xs, _, v0, rfl, rfl, .inl (.inl (s3 _ _ hT1)), (by rw [Int.zero_add]; exact atI_nat ev), v0, y0, p, n, rfl, hv0, hx _ (List.mem_of_getElem? ey0), by omega, by have := bulk_mem (List.mem_of_getElem? ey0); omega, fun L2 H4 us2 ps2 s4 eL2 all2 ne2 len2 good2 => ?_⟩
        have bi := bulk_tk ey0
        have bt := bulk_take ds (i + 1)
        have gy := hx _ (List.mem_of_getElem? ey0)
        refine ⟨L2, rfl, ⟨_, .inl (.inl eL2)⟩, fun pD nD => ?_⟩
        refine lcL (K := K) (a := L2) (xs := us2) (fun j H' => Same H4 H' ∧ ∃ ys, H' pD = some (.lst ys) ∧ AllAt (AtQ K H') ys ((ps2.take j).map (i :: ·))) nD (fun H' e1 e2 => ⟨e1, [], e2, .nil⟩) (fun j H' _ z => .inl (.inl (z.1 _ _ eL2))) (fun j x H' hx z => ?_) (fun H6 z => ?_)
        · obtain ⟨z1, ys, z2, z3⟩ := z
          obtain ⟨qq, hqq, hat⟩ := all2.get hx
          obtain ⟨b, rfl, hb⟩ := hat.same z1
          obtain ⟨zz, hzz⟩ := good2 qq (List.mem_of_getElem? hqq)
          obtain ⟨mm, hmm, _⟩ := hzz.gd gy
          have hm200 : m ≤ 200 := hm2
          have ly := z3.length
          rw [List.length_map, List.length_take] at ly
          refine ⟨rfl, _, rfl, (by show 1 ≤ sizeLine; decide), fun p4 H5 n4 s5 e4 => ⟨_, rfl, p4, b, _, _, rfl, rfl, .inl (.inl e4), seT s5 hb, fits (by simp; omega), fun p7 H7 s7 e7 => ?_⟩⟩
          obtain ⟨acc, a1, a2, a3, a4⟩ := acc_new2 (y := V.ref p7) nD (z1.trans (s5.trans s7)) (s7 _ _ (s5 _ _ z2)) (by omega)
          refine ⟨acc, a1, a2, a3, _, a4, ?_⟩
          rw [List.take_add_one, hqq, List.map_append]
          refine AllAt.app (z3.map fun v q h => ?_) (.cons ⟨p7, rfl, ?_⟩ .nil)
          · obtain ⟨b9, rfl, h9⟩ := h.same (s5.trans s7)
            exact ⟨b9, rfl, updT a1 h9⟩
          · have e7 := updT (o := .lst (acc ++ [V.ref p7])) a1 e7
            rw [e0i] at e7
            exact e7
        · obtain ⟨z1, ys, z2, z3⟩ := z
          rw [all2.length, List.take_length] at z3
          have eL6 := (s4.trans z1) _ _ eL
          have l1 := all.length
          have l3 := z3.length
          rw [List.length_map] at l3
          refine ⟨L, pD, us, ys, rfl, rfl, eL6, z2, fits (by omega), _, _, us ++ ys, ps ++ ps2.map (i :: ·), rfl, fun b o z => ?_, upd_same, AllAt.app (all.map fun v q h => ?_) (z3.map fun v q h => ?_), by simp [ne], ?_, fun q hq => ?_⟩
          · rw [upd_ne (ne_of_none z n2)]
            exact (s3.trans (s4.trans z1)) _ _ z
          · obtain ⟨b9, rfl, h9⟩ := h.same (s4.trans z1)
            exact ⟨b9, rfl, updT eL6 h9⟩
          · obtain ⟨b9, rfl, h9⟩ := h
            exact ⟨b9, rfl, updT eL6 h9⟩
          · rw [List.length_append, List.length_map, bi]
            omega
          · rcases List.mem_append.mp hq with hq | hq
            · exact good q hq
            · obtain ⟨q2, hq2, rfl⟩ := List.mem_map.mp hq
              obtain ⟨zz, hzz⟩ := good2 q2 hq2
              exact ⟨zz, .sub ey0 hzz⟩
      · rintro σ H3 ⟨y2, y3, us, ps, rfl, s3, eL, all, ne, len, good⟩
        refine ⟨_, rfl, q1 L H3 us ps (s1.trans s3) eL all ne (Nat.le_trans len ?_) good⟩
        rw [lx, List.take_length]
        show 1 + PyData.bulkAll ds ≤ PyData.bulkAll ds + 1
        omega
    · refine ⟨_, rfl, _, _, _, _, _, rfl, .ty _, hk.ty, kit_ty hk.tuple?, _, rfl, ?_⟩
      rw [decide_eq_false e0]
      refine iteF ⟨_, rfl, q1 L H2 [.ref p1] [[]] S2 e2 (.cons ⟨p1, rfl, .inl (.inl (s2 _ _ e1))⟩ .nil) (by simp) ?_ at_nil⟩
      exact Nat.succ_le_succ (Nat.zero_le _)

end
end Cl

set_option maxHeartbeats 0
namespace Cl
open PySem PySem.Spec PyProof.Rows L2
open GxR (TabB TabG)


theorem upH {H : Hp} {p M : Addr} {xs ys : List V} {o : HO} (e : H p = some (.tup xs)) (eM : H M = some (.lst ys)) : upd H M o p = some (.tup xs) := by
  rw [upd_ne (ne_of e eM (by intro z; cases z))]
  exact e
theorem tupGk {p n : Nat} {es : List PyData} (h : ∀ e ∈ es, Gk p n e) : Gk (p + 1) (n + 2) (.tuple es) := .tup fun e m => (h e m).up.deep
theorem lstGk {p n : Nat} {es : List PyData} (h : ∀ e ∈ es, Gk p n e) : Gk (p + 1) (n + 2) (.list es) := .lst fun e m => (h e m).up.deep
def spBentC (K : PySem.W.Frag) : Sp := fun vs H Q _ => ∃ M zs v a x p n way place what, vs = [v, .ref a] ∧ H M = some (.lst zs) ∧ SqT K H a [.int way, .int place, .int what] ∧ Dh K (hidL M H) v x ∧ Gk p n x ∧ p ≤ 1 ∧ n ≤ 3 ∧ x.bulk ≤ 25000 ∧ (0 ≤ way ∧ way < 2 ^ 40) ∧ (0 ≤ place ∧ place < 2 ^ 40) ∧ (0 ≤ what ∧ what < 2 ^ 40) ∧
  ∀ w' H' y, Same H H' → Dh K (hidL M H') w' y → Gk (p + 1) (n + 1) y → y.bulk ≤ 2 * x.bulk + 200 → tl y ≤ tl x + 2 → Q w' H'

section
variable {P : Program} {w : World} {K : PySem.W.Frag} {mg : Str → Option Value} {base : Heap}

theorem ok_law_bent {f : Addr} {fd : FuncData} (F : Fun K "_law_bent" "_law_bent" s_law_bent f fd) (T : Bt mg) (D_law_spots : Def P w K mg base 5 "_law_spots" ["_law_thing"] (spSpots K 4)) (D_law_with : Def P w K mg base 5 "_law_with" ["_law_thing", "_law_spot", "_law_part"] (spWith K 4)) :
    FnG P w K mg base CX0 6 f fd ["_law_thing", "_law_spoil"] (spBentC K) := by
  refine okG (k := 5) F sc_law_bent (fun vs H Q E h => ?_) (fun cdv A outer s H vs Q E hr h => ?_)
  · obtain ⟨M0, zs, v, a, x, p, n, way, place, what, rfl, _⟩ := h
    rfl
  · obtain ⟨M0, zs, v, a, x, p, n, way, place, what, rfl, eM0, hS, hv, gd, hp, hn, hbk, ⟨w0, w1⟩, ⟨l0, l1⟩, ⟨t0, t1⟩, q⟩ := h
    refine ⟨_, (pss_cons (ps_asg (pv 1) (pg_tup (by rfl) (pgs_cons (pg_name (i := 2) sc_law_bent.nd rfl (.inl rfl)) (pgs_cons (pg_name (i := 3) sc_law_bent.nd rfl (.inl rfl)) (pgs_cons (pg_name (i := 4) sc_law_bent.nd rfl (.inl rfl)) pgs_nil)))))
      (pss_cons (ps_set (i := 5) sc_law_bent.nd rfl (.inl rfl) (callD D_law_spots (hr.mono (by decide)) (pa_cons (pv 0) pa_nil)))
      (pss_cons (ps_set (i := 6) sc_law_bent.nd rfl (.inl rfl) (pe_ix ix_list (pv 5) (pe_op op_mod (pv 3) (pe_callB call_len_seq (by rfl) T.len (by decide +kernel) (pa_cons (pv 5) pa_nil))) (fun _ _ => rfl)))
      (pss_cons (ps_set (i := 7) sc_law_bent.nd rfl (.inl rfl) (pv 0))
      (pss_cons (ps_for PassesOwn.never rfl (pi_tup (pv 6)) (pg_name (i := 8) sc_law_bent.nd rfl (.inl rfl)) (pss_one (ps_set (i := 7) sc_law_bent.nd rfl (.inl rfl) (pe_ix ix_tup (pv 7) (pv 8) (fun _ _ => rfl)))))
      (cutS (ps_if (PW.pt (pw_and (pt_cmpR op_lt (pv 2) pe_int (nomark _)) (pw_and1 (pt_val (pe_callB call_isi (by rfl) T.isinstance (by decide +kernel) (pa_cons (pv 7) (pa_cons (pe_bltn (v := .ty "int") (by rfl) T.int (by decide +kernel) rfl) pa_nil))))))) (pss_cons (ps_set (i := 9) sc_law_bent.nd rfl (.inl rfl) (lstN (pa_cons (pe_op op_addN (pv 7) pe_int) (pa_cons (pe_op op_subN (pv 7) pe_int) (pa_cons (pe_op op_rsubN pe_int (pv 7)) (pa_cons (pe_cmpR op_eqN (pv 7) pe_int (nomark _)) (pa_cons (pe_callTy call_strN (by rfl) T.str (by decide +kernel) (pa_cons (pv 7) pa_nil)) (pa_cons (pe_op op_mulN pe_int (pv 7)) (pa_cons (pe_op op_addN (pv 7) (pe_op op_pow pe_int pe_int)) (pa_cons pe_non pa_nil))))))))))
      (pss_one (ps_ret (callD D_law_with (hr.mono (by decide)) (pa_cons (pv 0) (pa_cons (pv 6) (pa_cons (pe_ix ix_list (pv 9) (pe_op op_mod (pv 4) pe_int) (fun _ _ => rfl)) pa_nil))))))) pss_nil)
      (cutS (ps_if (PW.pt (pw_and (pt_cmpR op_lt (pv 2) pe_int (nomark _)) (pw_and1 (pt_val (pe_callB call_isi (by rfl) T.isinstance (by decide +kernel) (pa_cons (pv 7) (pa_cons (pe_bltn (v := .ty "tuple") (by rfl) T.tuple (by decide +kernel) rfl) pa_nil))))))) (pss_cons (ps_set (i := 10) sc_law_bent.nd rfl (.inl rfl) (pe_op op_mod (pv 4) (pe_op op_add (pe_callB call_len_seq (by rfl) T.len (by decide +kernel) (pa_cons (pv 7) pa_nil)) pe_int)))
      (pss_cons (ps_set (i := 9) sc_law_bent.nd rfl (.inl rfl) (lstN (pa_cons (pe_op op_catTH (pe_slice sl_tupH (pv 7) po_none (po_some (pv 10))) (pe_slice sl_tupH (pv 7) (po_some (pe_op op_add (pv 10) pe_int)) po_none)) (pa_cons (pe_op op_catTH (pe_op op_catTH (pe_slice sl_tupH (pv 7) po_none (po_some (pv 10))) (pe_slice sl_tupH (pv 7) (po_some (pv 10)) (po_some (pe_op op_add (pv 10) pe_int)))) (pe_slice sl_tupH (pv 7) (po_some (pv 10)) po_none)) (pa_cons (pe_revT (pv 7)) (pa_cons (pe_callTy call_listM (by rfl) T.list (by decide +kernel) (pa_cons (pv 7) pa_nil)) pa_nil))))))
      (pss_cons (ps_expr (pe_bm PySem.F.plainAttrs_list PySem.F.slot_list_append PySem.F.type_list_append mt_append (pv 9) (pa_cons (pe_op op_catTH (pe_op op_catTH (pe_slice sl_tupH (pv 7) po_none (po_some (pv 10))) (pe_revT (pe_slice sl_tupH (pv 7) (po_some (pv 10)) (po_some (pe_op op_add (pv 10) pe_int))))) (pe_slice sl_tupH (pv 7) (po_some (pe_op op_add (pv 10) pe_int)) po_none)) pa_nil)))
      (pss_one (ps_ret (callD D_law_with (hr.mono (by decide)) (pa_cons (pv 0) (pa_cons (pv 6) (pa_cons (pe_ix ix_list (pv 9) (pe_op op_mod (pe_op op_fdiv (pv 4) pe_int) pe_int) (fun _ _ => rfl)) pa_nil))))))))) pss_nil)
      (pss_cons (ps_set (i := 11) sc_law_bent.nd rfl (.inl rfl) (lstN (pa_cons pe_non (pa_cons pe_bl (pa_cons pe_bl (pa_cons pe_int (pa_cons pe_int (pa_cons (pe_un un_neg pe_int) (pa_cons pe_str (pa_cons pe_str (pa_cons pe_str (pa_cons (tupN pa_nil) (pa_cons (lstM pa_nil) (pa_cons pe_dnewK (pa_cons (lstM (pa_cons (pv 7) pa_nil)) (pa_cons (tupN (pa_cons (pv 7) pa_nil)) (pa_cons (pe_op op_pow pe_int pe_int) (pa_cons (tupN (pa_cons pe_int (pa_cons pe_int pa_nil))) pa_nil))))))))))))))))))
      (pss_one (ps_ret (callD D_law_with (hr.mono (by decide)) (pa_cons (pv 0) (pa_cons (pv 6) (pa_cons (pe_ix ix_list (pv 11) (pe_op op_mod (pv 4) pe_int) (fun _ _ => rfl)) pa_nil)))))))))))))), ?_⟩
    refine ⟨.ref a, rfl, a, _, rfl, hS, rfl, _, _, rfl, _, _, rfl, _, _, rfl, rfl, ?_⟩
    refine ⟨_, rfl, v, x, p, n, rfl, hv.un, gd, by omega, by omega, fun L H1 us ps s1 eL all ne len good => ?_⟩
    have lu := all.length
    have lp : 0 < us.length := by rw [lu]; exact List.length_pos_iff.mpr ne
    obtain ⟨j, ej, hj⟩ : ∃ j : Nat, place % ((us.length : Nat) : Int) = ((j : Nat) : Int) ∧ j < us.length := by
      have h0 := Int.emod_nonneg place (show ((us.length : Nat) : Int) ≠ 0 by omega)
      have h1 := Int.emod_lt_of_pos place (show (0 : Int) < ((us.length : Nat) : Int) by omega)
      exact ⟨(place % ((us.length : Nat) : Int)).toNat, by omega, by omega⟩
    have eu : us[j]? = some us[j] := List.getElem?_eq_getElem hj
    obtain ⟨qq, hqq, b, eb, hb⟩ := all.get eu
    obtain ⟨z, hz⟩ := good qq (List.mem_of_getElem? hqq)
    obtain ⟨mz, emz, gz⟩ := hz.gd gd
    refine ⟨_, rfl, _, rfl, _, rfl, L, us, rfl, .inl (.inl (.inl eL)), _, _, rfl, rfl, (by show (0 : Int) < ((us.length : Nat) : Int); omega), L, us, _, .ref b, rfl, rfl, .inl (.inl eL), (by rw [ej, ← eb]; exact atI_nat eu), ?_⟩
    have hv1 := hv.same s1.hidL
    have eM1 := s1 _ _ eM0
    refine ⟨_, rfl, _, rfl, b, rfl, ⟨_, hb⟩, for_tup (K := K) (a := b) (xs := qq.map ki) (fun i σ' H' => ∃ u y8 y9 y10 y11, σ' = [some v, some (.ref a), some (.int way), some (.int place), some (.int what), some (.ref L), some (.ref b), some u, y8, y9, y10, y11] ∧ H1 = H' ∧ ∃ py, Dh K (hidL M0 H1) u py ∧ At py (qq.drop i) z) ⟨_, _, _, _, _, rfl, rfl, x, hv1, hz⟩ (fun i σ' H' _ z => by obtain ⟨_, _, _, _, _, _, rfl, _⟩ := z; exact hb) (fun i k σ' H' hk z => ?_) (fun σ' H' z => ?_)⟩
    · obtain ⟨u, y8, y9, y10, y11, rfl, rfl, py, hpy, hat⟩ := z
      rw [List.getElem?_map] at hk
      cases e : qq[i]? with
      | none => rw [e] at hk; cases hk
      | some kk =>
        rw [e] at hk
        cases hk
        have ed : qq.drop i = kk :: qq.drop (i + 1) := by
          obtain ⟨h1, h2⟩ := List.getElem?_eq_some_iff.mp e
          rw [← h2]
          exact (List.drop_eq_getElem_cons h1)
        rw [ed] at hat
        cases hat with
        | @sub ds k y0 _ _ e0 hat0 =>
          cases hpy with
          | @tup a2 xs _ hT2 hall2 =>
            obtain ⟨w0, ew, hw⟩ := dhs_get hall2 e0
            exact ⟨_, rfl, _, rfl, a2, xs, _, w0, rfl, rfl, .inl (.inl (hidL_at hT2).2), atI_nat ew, _, _, _, _, _, rfl, rfl, y0, hw, hat0⟩
    · obtain ⟨u, y8, y9, y10, y11, rfl, rfl, py, hpy, hat⟩ := z
      rw [List.length_map, List.drop_length] at hat
      cases hat
      refine ⟨fun σ' H' => ∃ y8 y9 y10 y11, σ' = [some v, some (.ref a), some (.int way), some (.int place), some (.int what), some (.ref L), some (.ref b), some u, y8, y9, y10, y11] ∧ H1 = H', ?_, ?_⟩
      · refine ⟨_, rfl, _, _, rfl, rfl, _, rfl, ite2 (fun e => ?_) (fun e => ⟨_, _, _, _, rfl, rfl⟩)⟩
        obtain ⟨U, hk, _, _, _⟩ := hpy.un.kd
        refine ⟨_, rfl, _, _, _, _, _, rfl, .ty _, hk.ty, kit_ty hk.int?, _, rfl, ?_⟩
        cases hN : numV u with
        | none =>
          have hb : (isI u || isB u) = false := by cases u <;> first | rfl | cases hN
          rw [hb]
          exact iteF ⟨_, _, _, _, rfl, rfl⟩
        | some i =>
          have hb2 : (isI u || isB u) = true := by rcases numV_cases hN with rfl | ⟨b, rfl, _⟩ <;> rfl
          rw [hb2]
          have hi : i.natAbs < 2 ^ (130 + p) := num_bd hN hpy gz
          refine iteT ?_
          refine ⟨_, rfl, i, _, hN, rfl, _, rfl, i, _, hN, rfl, _, rfl, _, i, rfl, hN, _, rfl, i, _, hN, rfl, _, rfl, u, i, rfl, hN, log1920 hi hp, _, rfl, _, i, rfl, hN, ⟨by decide, by decide⟩, ?_⟩
          refine ⟨_, rfl, _, _, rfl, rfl, ⟨by decide, by decide, by decide⟩, i, _, hN, rfl, ?_⟩
          refine ⟨(by show 8 ≤ sizeLine; decide), fun M H2 n2 S9 e2 => ?_⟩
          have all : DhAll K (hidL M0 H2) [V.int (i + 1), .int (i - 1), .int (0 - i), .bl (decide (i = 1)), .str (strN u), .int (2 * i), .int (i + 10 ^ (30 : Int).toNat), .non]
              [PyData.int (i + 1), .int (i - 1), .int (0 - i), .bool (decide (i = 1)), .str (strN u), .int (2 * i), .int (i + 10 ^ (30 : Int).toNat), .none] :=
            .cons (.int _) (.cons (.int _) (.cons (.int _) (.cons (.bl _) (.cons (.str _) (.cons (.int _) (.cons (.int _) (.cons .non .nil)))))))
          have good : ∀ y ∈ [PyData.int (i + 1), .int (i - 1), .int (0 - i), .bool (decide (i = 1)), .str (strN u), .int (2 * i), .int (i + 10 ^ (30 : Int).toNat), .none], Gk (p + 1) (mz + 1) y := by
            intro y hy
            have h3 : 2 ^ (130 + (p + 1)) = 2 * 2 ^ (130 + p) := by rw [← Nat.add_assoc, Nat.pow_succ]; omega
            have h4 : 2 ^ 130 ≤ 2 ^ (130 + p) := Nat.pow_le_pow_right (by omega) (by omega)
            have h5 : (10 : Int) ^ (30 : Int).toNat = 1000000000000000000000000000000 := by decide
            simp only [List.mem_cons, List.not_mem_nil, or_false] at hy
            rcases hy with rfl | rfl | rfl | rfl | rfl | rfl | rfl | rfl
            · exact gInt (by omega)
            · exact gInt (by omega)
            · exact gInt (by omega)
            · exact .lf trivial
            · rcases numV_cases hN with rfl | ⟨b, rfl, _⟩
              · exact .lf (int_lf hp hi)
              · cases b <;> exact gStr (by decide) (by decide)
            · exact gInt (by omega)
            · exact gInt (by rw [h5]; omega)
            · exact .lf trivial
          have gb : ∀ y ∈ [PyData.int (i + 1), .int (i - 1), .int (0 - i), .bool (decide (i = 1)), .str (strN u), .int (2 * i), .int (i + 10 ^ (30 : Int).toNat), .none], y.bulk ≤ 2 * z.bulk + 200 := by
            intro y hy
            simp only [List.mem_cons, List.not_mem_nil, or_false] at hy
            rcases hy with rfl | rfl | rfl | rfl | rfl | rfl | rfl | rfl
            · exact Nat.zero_le _
            · exact Nat.zero_le _
            · exact Nat.zero_le _
            · exact Nat.zero_le _
            · have g9 := good (.str (strN u)) (by simp)
              cases g9 with
              | lf h =>
                have h1 : (strN u).cps.size ≤ 15 * 3 ^ (p + 1) := h.1
                have h2 : 3 ^ (p + 1) ≤ 3 ^ 2 := Nat.pow_le_pow_right (by omega) (by omega)
                show (strN u).cps.size ≤ _
                omega
            · exact Nat.zero_le _
            · exact Nat.zero_le _
            · exact Nat.zero_le _
          have gt : ∀ y ∈ [PyData.int (i + 1), .int (i - 1), .int (0 - i), .bool (decide (i = 1)), .str (strN u), .int (2 * i), .int (i + 10 ^ (30 : Int).toNat), .none], tl y ≤ tl z + 2 := by
            intro y hy
            simp only [List.mem_cons, List.not_mem_nil, or_false] at hy
            rcases hy with rfl | rfl | rfl | rfl | rfl | rfl | rfl | rfl <;> exact Nat.zero_le _
          have i0 := Int.emod_nonneg (what) (show (8 : Int) ≠ 0 by decide)
          have i1 := Int.emod_lt_of_pos (what) (show (0 : Int) < 8 by decide)
          obtain ⟨w9, y9, hw, hy, qy⟩ := dhs_at all i0 (by simp; omega)
          refine ⟨_, rfl, _, rfl, _, rfl, _, rfl, _, _, rfl, rfl, (by show (0 : Int) < 8; decide), M, _, _, w9, rfl, rfl, .inl (.inl e2), hw, M0, zs, v, .ref b, w9, x, qq, _, y9, rfl, S9 _ _ eM1, hv1.same S9.hidL, ⟨b, rfl, seT S9 hb⟩, hz, by omega, by omega, qy, fun w8 H8 s8 d8 => q w8 H8 _ ((s1.trans S9).trans s8) d8 (hz.put gd (good _ hy) (by omega)) (by have := gb _ hy; have := (hz.bulk (y := y9)).1; have := (hz.bulk (y := y9)).2; omega) (hz.tl (gt _ hy))⟩
      · rintro σ9 H9 ⟨y8, y9, y10, y11, rfl, rfl⟩
        refine ⟨fun σ' H' => ∃ y8 y9 y10 y11, σ' = [some v, some (.ref a), some (.int way), some (.int place), some (.int what), some (.ref L), some (.ref b), some u, y8, y9, y10, y11] ∧ H1 = H', ?_, ?_⟩
        · refine ⟨_, rfl, _, _, rfl, rfl, _, rfl, ite2 (fun e => ?_) (fun e => ⟨_, _, _, _, rfl, rfl⟩)⟩
          obtain ⟨U, hk, ht, _, _⟩ := hpy.un.kd
          by_cases e0 : U = "tuple"
          · obtain ⟨ds, rfl⟩ := ht.mp e0
            cases hpy with
            | @tup a2 xs _ hT2 hall =>
            cases gz with
            | lf h => exact h.elim
            | @tup m9 _ hx =>
            have hT2 := (hidL_at hT2).2
            have lx := hall.len
            refine ⟨_, rfl, _, _, _, _, _, rfl, .ty _, (Kd.tup (K := K) (show SqT K H1 a2 xs from .inl (.inl hT2))).ty, kit_ty (Kd.tup (K := K) (show SqT K H1 a2 xs from .inl (.inl hT2))).tuple?, _, rfl, iteT ?_⟩
            obtain ⟨j, ej, hj⟩ : ∃ j : Nat, what % (((xs.length : Nat) : Int) + 1) = ((j : Nat) : Int) ∧ j ≤ xs.length := by
              have h0 := Int.emod_nonneg what (show ((xs.length : Nat) : Int) + 1 ≠ 0 by omega)
              have h1 := Int.emod_lt_of_pos what (show (0 : Int) < ((xs.length : Nat) : Int) + 1 by omega)
              exact ⟨(what % (((xs.length : Nat) : Int) + 1)).toNat, by omega, by omega⟩
            refine ⟨_, rfl, _, rfl, a2, xs, rfl, .inr (.inl (.inl hT2)), _, _, rfl, rfl, _, _, rfl, rfl, (by show (0 : Int) < ((xs.length : Nat) : Int) + 1; omega), ?_⟩
            have h64 : xs.length ≤ 60000 := by
              have z1 := hz.bulk (y := .none)
              have z2 : (PyData.tuple ds).bulk = PyData.bulkAll ds := rfl
              have z3 := len_bulk ds
              omega
            generalize hG : ((fun i j => V.int (i % j)) what (((xs.length : Nat) : Int) + 1) : V) = gv
            have hG : gv = V.int ((j : Nat) : Int) := by
              rw [← hG]
              exact congrArg V.int ej
            subst hG
            have v0 := Same.refl H1
            refine ⟨_, rfl, _, rfl, _, rfl, a2, xs, rfl, (v0 _ _ hT2), fun p1 A1 t1 g1 => ?_⟩
            rw [cutV_take] at g1
            have v1 := v0.trans t1
            refine ⟨_, rfl, _, rfl, _, _, rfl, rfl, _, rfl, a2, xs, rfl, (v1 _ _ hT2), fun p2 A2 t2 g2 => ?_⟩
            rw [show ((j : Nat) : Int) + 1 = ((j + 1 : Nat) : Int) from rfl, cutV_drop] at g2
            have v2 := v1.trans t2
            refine ⟨p1, p2, _, _, rfl, rfl, (t2 _ _ g1), g2, fits (by simp; omega), fun p3 A3 t3 g3 => ?_⟩
            have v3 := v2.trans t3
            refine ⟨_, rfl, _, rfl, _, rfl, a2, xs, rfl, (v3 _ _ hT2), fun p4 A4 t4 g4 => ?_⟩
            rw [cutV_take] at g4
            have v4 := v3.trans t4
            refine ⟨_, rfl, _, rfl, _, rfl, _, rfl, _, _, rfl, rfl, _, rfl, a2, xs, rfl, (v4 _ _ hT2), fun p5 A5 t5 g5 => ?_⟩
            rw [show ((j : Nat) : Int) + 1 = ((j + 1 : Nat) : Int) from rfl, cutV_mid _ _ _ hj] at g5
            have v5 := v4.trans t5
            refine ⟨p4, p5, _, _, rfl, rfl, (t5 _ _ g4), g5, fits (by simp; omega), fun p6 A6 t6 g6 => ?_⟩
            have v6 := v5.trans t6
            refine ⟨_, rfl, _, rfl, _, rfl, a2, xs, rfl, (v6 _ _ hT2), fun p7 A7 t7 g7 => ?_⟩
            rw [cutV_drop] at g7
            have v7 := v6.trans t7
            refine ⟨p6, p7, _, _, rfl, rfl, (t7 _ _ g6), g7, fits (by simp; omega), fun p8 A8 t8 g8 => ?_⟩
            have v8 := v7.trans t8
            refine ⟨_, rfl, a2, xs, rfl, .inl (.inl (v8 _ _ hT2)), fun p9 A9 n9 t9 g9 => ?_⟩
            have v9 := v8.trans t9
            refine ⟨_, rfl, a2, xs, rfl, .inl (.inl (v9 _ _ hT2)), fun p10 A10 m10 n10 t10 g10 => ?_⟩
            have v10 := v9.trans t10
            refine ⟨(by show 4 ≤ sizeLine; decide), fun M A11 n11 t11 g11 => ?_⟩
            have v11 := v10.trans t11
            refine ⟨_, rfl, .inl ⟨rfl, _, .inl (.inl g11)⟩, ?_⟩
            refine ⟨_, rfl, _, rfl, _, rfl, a2, xs, rfl, (v11 _ _ hT2), fun p12 A12 t12 g12 => ?_⟩
            rw [cutV_take] at g12
            have v12 := v11.trans t12
            refine ⟨_, rfl, _, rfl, _, rfl, _, rfl, _, _, rfl, rfl, _, rfl, a2, xs, rfl, (v12 _ _ hT2), fun p13 A13 t13 g13 => ?_⟩
            rw [show ((j : Nat) : Int) + 2 = ((j + 2 : Nat) : Int) from rfl, cutV_mid _ _ _ hj] at g13
            have v13 := v12.trans t13
            refine ⟨p13, _, rfl, .inl (.inl g13), fun p14 A14 n14 t14 g14 => ?_⟩
            have v14 := v13.trans t14
            refine ⟨p12, p14, _, _, rfl, rfl, ((t13.trans t14) _ _ g12), g14, fits (by simp; omega), fun p15 A15 t15 g15 => ?_⟩
            have v15 := v14.trans t15
            refine ⟨_, rfl, _, rfl, _, _, rfl, rfl, _, rfl, a2, xs, rfl, (v15 _ _ hT2), fun p16 A16 t16 g16 => ?_⟩
            rw [show ((j : Nat) : Int) + 2 = ((j + 2 : Nat) : Int) from rfl, cutV_drop] at g16
            have v16 := v15.trans t16
            refine ⟨p15, p16, _, _, rfl, rfl, (t16 _ _ g15), g16, fits (by simp; omega), fun p17 A17 t17 g17 => ?_⟩
            have v17 := v16.trans t17
            have x17 := t17
            have x16 := t16.trans x17
            have x15 := t15.trans x16
            have x14 := t14.trans x15
            have x13 := t13.trans x14
            have x12 := t12.trans x13
            have x11 := t11.trans x12
            have x10 := t10.trans x11
            have x9 := t9.trans x10
            have x8 := t8.trans x9
            have x7 := t7.trans x8
            have x6 := t6.trans x7
            have x5 := t5.trans x6
            have x4 := t4.trans x5
            have x3 := t3.trans x4
            have x2 := t2.trans x3
            have eM : A17 M = some (.lst [V.ref p3, .ref p8, .ref p9, .ref p10]) := x12 _ _ g11
            refine ⟨M, _, .ref p17, rfl, rfl, eM, fits (by show 4 + 1 ≤ 200000; decide), ?_⟩
            have U18 : Same A10 (upd A17 M (.lst ([V.ref p3, .ref p8, .ref p9, .ref p10] ++ [.ref p17]))) := fun b o z => by
              rw [upd_ne (ne_of_none z n11)]
              exact x11 _ _ z
            have S9 := v10.trans U18
            have h1 := upH (o := .lst ([V.ref p3, .ref p8, .ref p9, .ref p10] ++ [.ref p17])) (x4 _ _ g3) eM
            have h2 := upH (o := .lst ([V.ref p3, .ref p8, .ref p9, .ref p10] ++ [.ref p17])) (x9 _ _ g8) eM
            have h3 := U18 _ _ (t10 _ _ g9)
            have h4 := U18 _ _ g10
            have h5 := upH (o := .lst ([V.ref p3, .ref p8, .ref p9, .ref p10] ++ [.ref p17])) g17 eM
            have e18 : (upd A17 M (.lst ([V.ref p3, .ref p8, .ref p9, .ref p10] ++ [.ref p17]))) M = some (.lst ([V.ref p3, .ref p8, .ref p9, .ref p10] ++ [.ref p17])) := upd_same
            generalize (upd A17 M (.lst ([V.ref p3, .ref p8, .ref p9, .ref p10] ++ [.ref p17]))) = A18 at S9 h1 h2 h3 h4 h5 e18 ⊢
            have eM18 := S9 _ _ eM1
            have hall9 := hall.same S9.hidL
            have all : DhAll K (hidL M0 A18) ([V.ref p3, .ref p8, .ref p9, .ref p10] ++ [.ref p17]) ([PyData.tuple (ds.take j ++ ds.drop (j + 1)), .tuple (ds.take j ++ (ds.drop j).take 1 ++ ds.drop j), .tuple ds.reverse, .list ds] ++ [.tuple (ds.take j ++ ((ds.drop j).take 2).reverse ++ ds.drop (j + 2))]) := by
              have tk := fun i => dhs_take i hall9
              have dp := fun i => dhs_drop i hall9
              exact .cons (.tup (hidT h1 eM18) (DhAll.app (tk j) (dp (j + 1)))) (.cons (.tup (hidT h2 eM18) (DhAll.app (DhAll.app (tk j) (dhs_take 1 (dp j))) (dp j))) (.cons (.tup (hidT h3 eM18) (DhAll.rev hall9)) (.cons (.lst m10 (hidN n10 ((v9) _ _ eM1) h4) hall9) (.cons (.tup (hidT h5 eM18) (DhAll.app (DhAll.app (tk j) (DhAll.rev (dhs_take 2 (dp j)))) (dp (j + 2)))) .nil))))
            have good : ∀ y ∈ ([PyData.tuple (ds.take j ++ ds.drop (j + 1)), .tuple (ds.take j ++ (ds.drop j).take 1 ++ ds.drop j), .tuple ds.reverse, .list ds] ++ [.tuple (ds.take j ++ ((ds.drop j).take 2).reverse ++ ds.drop (j + 2))]), Gk (p + 1) (m9 + 1 + 1) y := by
              intro y hy
              have tk : ∀ {i : Nat} {e : PyData}, e ∈ ds.take i → Gk p m9 e := fun h => hx _ (List.mem_of_mem_take h)
              have dp : ∀ {i : Nat} {e : PyData}, e ∈ ds.drop i → Gk p m9 e := fun h => hx _ (List.mem_of_mem_drop h)
              simp only [List.cons_append, List.nil_append, List.mem_cons, List.not_mem_nil, or_false] at hy
              rcases hy with rfl | rfl | rfl | rfl | rfl
              · refine tupGk fun e he => ?_
                rcases List.mem_append.mp he with he | he
                · exact tk he
                · exact dp he
              · refine tupGk fun e he => ?_
                rcases List.mem_append.mp he with he | he
                · rcases List.mem_append.mp he with he | he
                  · exact tk he
                  · exact dp (List.mem_of_mem_take he)
                · exact dp he
              · exact tupGk fun e he => hx _ (List.mem_reverse.mp he)
              · exact lstGk hx
              · refine tupGk fun e he => ?_
                rcases List.mem_append.mp he with he | he
                · rcases List.mem_append.mp he with he | he
                  · exact tk he
                  · exact dp (List.mem_of_mem_take (List.mem_reverse.mp he))
                · exact dp he
            have gb : ∀ y ∈ ([PyData.tuple (ds.take j ++ ds.drop (j + 1)), .tuple (ds.take j ++ (ds.drop j).take 1 ++ ds.drop j), .tuple ds.reverse, .list ds] ++ [.tuple (ds.take j ++ ((ds.drop j).take 2).reverse ++ ds.drop (j + 2))]), y.bulk ≤ 2 * (PyData.tuple ds).bulk + 200 := by
              intro y hy
              have b0 : (PyData.tuple ds).bulk = PyData.bulkAll ds := rfl
              have b1 := bulk_split ds j
              have b2 := bulk_drop_le ds j (j + 1) (by omega)
              have b3 := bulk_drop_le ds j (j + 2) (by omega)
              have b4 := bulk_take (ds.drop j) 1
              have b5 := bulk_take (ds.drop j) 2
              simp only [List.cons_append, List.nil_append, List.mem_cons, List.not_mem_nil, or_false] at hy
              rcases hy with rfl | rfl | rfl | rfl | rfl
              · show PyData.bulkAll (ds.take j ++ ds.drop (j + 1)) ≤ _
                rw [bulk_app]; omega
              · show PyData.bulkAll (ds.take j ++ (ds.drop j).take 1 ++ ds.drop j) ≤ _
                rw [bulk_app, bulk_app]; omega
              · show PyData.bulkAll ds.reverse ≤ _
                rw [bulk_rev]; omega
              · show PyData.bulkAll ds ≤ _
                omega
              · show PyData.bulkAll (ds.take j ++ ((ds.drop j).take 2).reverse ++ ds.drop (j + 2)) ≤ _
                rw [bulk_app, bulk_app, bulk_rev]; omega
            have gt : ∀ y ∈ ([PyData.tuple (ds.take j ++ ds.drop (j + 1)), .tuple (ds.take j ++ (ds.drop j).take 1 ++ ds.drop j), .tuple ds.reverse, .list ds] ++ [.tuple (ds.take j ++ ((ds.drop j).take 2).reverse ++ ds.drop (j + 2))]), tl y ≤ tl (PyData.tuple ds) + 2 := by
              intro y hy
              simp only [List.cons_append, List.nil_append, List.mem_cons, List.not_mem_nil, or_false] at hy
              rcases hy with rfl | rfl | rfl | rfl | rfl
              · show (ds.take j ++ ds.drop (j + 1)).length ≤ ds.length + 2
                simp; omega
              · show (ds.take j ++ (ds.drop j).take 1 ++ ds.drop j).length ≤ ds.length + 2
                simp; omega
              · show ds.reverse.length ≤ ds.length + 2
                simp
              · exact Nat.zero_le _
              · show (ds.take j ++ ((ds.drop j).take 2).reverse ++ ds.drop (j + 2)).length ≤ ds.length + 2
                simp; omega
            have i0 := Int.emod_nonneg (what / 100) (show (5 : Int) ≠ 0 by decide)
            have i1 := Int.emod_lt_of_pos (what / 100) (show (0 : Int) < 5 by decide)
            obtain ⟨w9, y9, hw, hy, qy⟩ := dhs_at all i0 (by simp; omega)
            refine ⟨_, rfl, _, rfl, _, rfl, _, rfl, _, _, rfl, rfl, ⟨by decide, by decide⟩, _, _, rfl, rfl, (by show (0 : Int) < 5; decide), M, _, _, w9, rfl, rfl, .inl (.inl e18), hw, M0, zs, v, .ref b, w9, x, qq, _, y9, rfl, S9 _ _ eM1, hv1.same S9.hidL, ⟨b, rfl, seT S9 hb⟩, hz, by omega, by omega, qy, fun w8 H8 s8 d8 => q w8 H8 _ ((s1.trans S9).trans s8) d8 (hz.put gd (good _ hy) (by omega)) (by have := gb _ hy; have := (hz.bulk (y := y9)).1; have := (hz.bulk (y := y9)).2; omega) (hz.tl (gt _ hy))⟩
          · refine ⟨_, rfl, _, _, _, _, _, rfl, .ty _, hk.ty, kit_ty hk.tuple?, _, rfl, ?_⟩
            rw [decide_eq_false e0]
            exact iteF ⟨_, _, _, _, rfl, rfl⟩
        · rintro σ9 H9 ⟨y8, y9, y10, y11, rfl, rfl⟩
          refine ⟨_, rfl, Nat.zero_le _, fun p1 A1 n1 t1 g1 => ⟨Nat.zero_le _, fun p2 A2 m2 n2 t2 g2 => ?_⟩⟩
          intro p3 n3
          have t3 : Same A2 (upd A2 p3 (.dK [])) := same_new n3
          have g3 : (upd A2 p3 (.dK [])) p3 = some (.dK []) := upd_same
          generalize (upd A2 p3 (.dK [])) = A3 at t3 g3 ⊢
          refine ⟨_, rfl, (by show 1 ≤ sizeLine; decide), fun p4 A4 m4 n4 t4 g4 => ⟨_, rfl, (by show 1 ≤ sizeLine; decide), fun p5 A5 n5 t5 g5 => ?_⟩⟩
          refine ⟨_, _, rfl, rfl, ⟨by decide, by decide, by decide⟩, (by show 2 ≤ sizeLine; decide), fun p6 A6 n6 t6 g6 => ⟨(by show 16 ≤ sizeLine; decide), fun M A7 n7 t7 g7 => ?_⟩⟩
          have x7 := t7
          have x6 := t6.trans x7
          have x5 := t5.trans x6
          have x4 := t4.trans x5
          have x3 := t3.trans x4
          have x2 := t2.trans x3
          have x1 := t1.trans x2
          have S9 := x1
          have hp7 := hpy.same S9.hidL
          have all : DhAll K (hidL M0 A7) [V.non, .bl true, .bl false, .int 0, .int 1, .int (-1), .str "", .str "meets", .str "misses", .ref p1, .ref p2, .ref p3, .ref p4, .ref p5, .int (10 ^ (39 : Int).toNat), .ref p6]
              [PyData.none, .bool true, .bool false, .int 0, .int 1, .int (-1), .str "", .str "meets", .str "misses", .tuple [], .list [], .dict [], .list [z], .tuple [z], .int (10 ^ (39 : Int).toNat), .tuple [.int 0, .int 1]] :=
            .cons .non (.cons (.bl _) (.cons (.bl _) (.cons (.int _) (.cons (.int _) (.cons (.int _) (.cons (.str _) (.cons (.str _) (.cons (.str _) (.cons (.tup (hidT (x2 _ _ g1) (x1 _ _ eM1)) .nil) (.cons (.lst m2 (hidN n2 (t1 _ _ eM1) (x3 _ _ g2)) .nil) (.cons (.emp (hidN n3 ((t1.trans t2) _ _ eM1) (x4 _ _ g3))) (.cons (.lst m4 (hidN n4 ((t1.trans (t2.trans t3)) _ _ eM1) (x5 _ _ g4)) (.cons hp7 .nil)) (.cons (.tup (hidT (x6 _ _ g5) (x1 _ _ eM1)) (.cons hp7 .nil)) (.cons (.int _) (.cons (.tup (hidT (x7 _ _ g6) (x1 _ _ eM1)) (.cons (.int _) (.cons (.int _) .nil))) .nil)))))))))))))))
          have good : ∀ y ∈ [PyData.none, .bool true, .bool false, .int 0, .int 1, .int (-1), .str "", .str "meets", .str "misses", .tuple [], .list [], .dict [], .list [z], .tuple [z], .int (10 ^ (39 : Int).toNat), .tuple [.int 0, .int 1]], Gk (p + 1) (mz + 1) y := by
            intro y hy
            have one : ∀ e ∈ [z], Gk (p + 1) mz e := fun e he => by rw [List.mem_singleton.mp he]; exact gz.up
            simp only [List.mem_cons, List.not_mem_nil, or_false] at hy
            rcases hy with rfl | rfl | rfl | rfl | rfl | rfl | rfl | rfl | rfl | rfl | rfl | rfl | rfl | rfl | rfl | rfl
            · exact .lf trivial
            · exact .lf trivial
            · exact .lf trivial
            · exact gInt0 (by decide)
            · exact gInt0 (by decide)
            · exact gInt0 (by decide)
            · exact gStr (by decide) (by decide)
            · exact gStr (by decide) (by decide)
            · exact gStr (by decide) (by decide)
            · exact .tup (fun _ h => nomatch h)
            · exact .lst (fun _ h => nomatch h)
            · exact .emp
            · exact .lst one
            · exact .tup one
            · exact gInt0 (by show ((10 : Int) ^ 39).natAbs < 2 ^ 130; decide)
            · refine .tup fun e he => ?_
              simp only [List.mem_cons, List.not_mem_nil, or_false] at he
              rcases he with rfl | rfl <;> exact gInt0 (by decide)
          have gb : ∀ y ∈ [PyData.none, .bool true, .bool false, .int 0, .int 1, .int (-1), .str "", .str "meets", .str "misses", .tuple [], .list [], .dict [], .list [z], .tuple [z], .int (10 ^ (39 : Int).toNat), .tuple [.int 0, .int 1]], y.bulk ≤ 2 * z.bulk + 200 := by
            intro y hy
            simp only [List.mem_cons, List.not_mem_nil, or_false] at hy
            rcases hy with rfl | rfl | rfl | rfl | rfl | rfl | rfl | rfl | rfl | rfl | rfl | rfl | rfl | rfl | rfl | rfl
            · exact Nat.zero_le _
            · exact Nat.zero_le _
            · exact Nat.zero_le _
            · exact Nat.zero_le _
            · exact Nat.zero_le _
            · exact Nat.zero_le _
            · exact Nat.zero_le _
            · show 5 ≤ _; omega
            · show 6 ≤ _; omega
            · exact Nat.zero_le _
            · exact Nat.zero_le _
            · exact Nat.zero_le _
            · show z.bulk + 1 + 0 ≤ _; omega
            · show z.bulk + 1 + 0 ≤ _; omega
            · exact Nat.zero_le _
            · show 0 + 1 + (0 + 1 + 0) ≤ _; omega
          have gt : ∀ y ∈ [PyData.none, .bool true, .bool false, .int 0, .int 1, .int (-1), .str "", .str "meets", .str "misses", .tuple [], .list [], .dict [], .list [z], .tuple [z], .int (10 ^ (39 : Int).toNat), .tuple [.int 0, .int 1]], tl y ≤ tl z + 2 := by
            intro y hy
            simp only [List.mem_cons, List.not_mem_nil, or_false] at hy
            rcases hy with rfl | rfl | rfl | rfl | rfl | rfl | rfl | rfl | rfl | rfl | rfl | rfl | rfl | rfl | rfl | rfl <;> first | exact Nat.zero_le _ | exact Nat.le_trans (by decide : 1 ≤ 2) (Nat.le_add_left ..) | exact Nat.le_add_left 2 _
          have i0 := Int.emod_nonneg (what) (show (16 : Int) ≠ 0 by decide)
          have i1 := Int.emod_lt_of_pos (what) (show (0 : Int) < 16 by decide)
          obtain ⟨w9, y9, hw, hy, qy⟩ := dhs_at all i0 (by simp; omega)
          refine ⟨_, rfl, _, rfl, _, rfl, _, rfl, _, _, rfl, rfl, (by show (0 : Int) < 16; decide), M, _, _, w9, rfl, rfl, .inl (.inl g7), hw, M0, zs, v, .ref b, w9, x, qq, _, y9, rfl, S9 _ _ eM1, hv1.same S9.hidL, ⟨b, rfl, seT S9 hb⟩, hz, by omega, by omega, qy, fun w8 H8 s8 d8 => q w8 H8 _ ((s1.trans S9).trans s8) d8 (hz.put gd (good _ hy) (by omega)) (by have := gb _ hy; have := (hz.bulk (y := y9)).1; have := (hz.bulk (y := y9)).2; omega) (hz.tl (gt _ hy))⟩

end
end Cl

set_option maxHeartbeats 0
namespace Cl
open PySem PySem.Spec PyProof.Rows L2
open GxR (TabB TabG)

def Spoil (K : PySem.W.Frag) (H : Hp) (u : V) : Prop := ∃ (a : Addr) (way place what more : Int), u = .ref a ∧ SqT K H a [.int way, .int place, .int what, .int more] ∧ (0 ≤ way ∧ way < 8) ∧ (0 ≤ place ∧ place < 100003) ∧ (0 ≤ what ∧ what < 99991)
theorem Spoil.step {K : PySem.W.Frag} {H H' : Hp} {u : V} {d l : Addr} (h : Spoil K H u) (S : Step d l H H') (D : Deck H d l) : Spoil K H' u := by
  obtain ⟨a, w, p, t, m, rfl, hS, b⟩ := h
  exact ⟨a, w, p, t, m, rfl, stT S D hS, b⟩
theorem Spoil.upd {K : PySem.W.Frag} {H : Hp} {u : V} {M : Addr} {xs : List V} {o : HO} (h : Spoil K H u) (e : H M = some (.lst xs)) : Spoil K (L2.upd H M o) u := by
  obtain ⟨a, w, p, t, m, rfl, hS, b⟩ := h
  exact ⟨a, w, p, t, m, rfl, updT e hS, b⟩
def spSpoils (K : PySem.W.Frag) : Sp := fun vs H Q _ => ∃ d l, vs = [.ref d, .int 8] ∧ Deck H d l ∧
  ∀ L H' us, H L = none → Step d l H H' → (L ≠ d ∧ L ≠ l) → H' L = some (.lst us) → us.length = 8 → (∀ u ∈ us, Spoil K H' u) → Q (.ref L) H'

def PtsH (H : Hp) (v : V) (p : Pt) : Prop := ∃ b, v = .ref b ∧ H b = some (.tup [.int p.1, .int p.2])
theorem PtsH.same {H H' : Hp} {v : V} {p : Pt} (h : PtsH H v p) (s : Same H H') : PtsH H' v p := by
  obtain ⟨b, e, h⟩ := h
  exact ⟨b, e, s _ _ h⟩
theorem PtsH.step {H H' : Hp} {d l : Addr} {v : V} {p : Pt} (h : PtsH H v p) (S : Step d l H H') (D : Deck H d l) : PtsH H' v p := by
  obtain ⟨b, e, h⟩ := h
  exact ⟨b, e, S.tupH D h⟩
theorem PtsH.upd {H : Hp} {M : Addr} {xs : List V} {o : HO} {v : V} {p : Pt} (h : PtsH H v p) (e : H M = some (.lst xs)) : PtsH (L2.upd H M o) v p := by
  obtain ⟨b, e1, h⟩ := h
  exact ⟨b, e1, upH h e⟩
def Bd130 (p : Pt) : Prop := p.1.natAbs ≤ 10 ^ 39 ∧ p.2.natAbs ≤ 10 ^ 39
def spCorner20 : Sp := fun vs H Q _ => ∃ d l way, vs = [.ref d, .int way] ∧ Deck H d l ∧ ∀ v p H', Step d l H H' → PtsH H' v p → Bd130 p → Q v H'
def spDrawn20 : Sp := fun vs H Q _ => ∃ d l, vs = [.ref d] ∧ Deck H d l ∧ ∀ a xs ps H', Step d l H H' → H' a = some (.tup xs) → AllAt (PtsH H') xs ps → ps ≠ [] → ps.length ≤ 2000 → (∀ p ∈ ps, p.1.natAbs < 2 ^ 130 ∧ p.2.natAbs < 2 ^ 130) → Q (.ref a) H'

section
variable {P : Program} {w : World} {K : PySem.W.Frag} {mg : Str → Option Value} {base : Heap}

theorem ok_law_spoils {f : Addr} {fd : FuncData} (F : Fun K "_law_spoils" "_law_spoils" s_law_spoils f fd) (T : Bt mg) (D_law_draw : Def P w K mg base 1 "_law_draw" ["_law_deck_here", "_law_most"] spDraw) :
    FnG P w K mg base CX0 2 f fd ["_law_deck_here", "_law_many"] (spSpoils K) := by
  refine okG (k := 1) F sc_law_spoils (fun vs H Q E h => ?_) (fun cdv A outer s H vs Q E hr h => ?_)
  · obtain ⟨d, l, rfl, _⟩ := h
    rfl
  · obtain ⟨d, l, rfl, D, q⟩ := h
    refine ⟨_, (pss_cons (ps_set (i := 2) sc_law_spoils.nd rfl (.inl rfl) (lstN pa_nil))
      (pss_cons (ps_for PassesOwn.never rfl (pi_range1 (by rfl) T.range (pa_cons (pv 1) pa_nil)) (pg_name (i := 3) sc_law_spoils.nd rfl (.inl rfl)) (pss_one (ps_expr (pe_bm PySem.F.plainAttrs_list PySem.F.slot_list_append PySem.F.type_list_append mt_append (pv 2) (pa_cons (tupN (pa_cons (callD D_law_draw (hr.mono (by decide)) (pa_cons (pv 0) (pa_cons pe_int pa_nil))) (pa_cons (callD D_law_draw (hr.mono (by decide)) (pa_cons (pv 0) (pa_cons pe_int pa_nil))) (pa_cons (callD D_law_draw (hr.mono (by decide)) (pa_cons (pv 0) (pa_cons pe_int pa_nil))) (pa_cons (callD D_law_draw (hr.mono (by decide)) (pa_cons (pv 0) (pa_cons pe_int pa_nil))) pa_nil))))) pa_nil)))))
      (pss_one (ps_ret (pv 2))))), ?_⟩
    refine ⟨Nat.zero_le _, fun L H1 n1 s1 e1 => ?_⟩
    have nd := D.nd n1
    refine ⟨_, rfl, 8, rfl, by decide, by decide, for_range (n := 8) (fun i σ H' => ∃ y3 us, σ = [some (.ref d), some (.int 8), some (.ref L), y3] ∧ Step d l H H' ∧ H' L = some (.lst us) ∧ us.length = i ∧ ∀ u ∈ us, Spoil K H' u) ?_ ?_ ?_⟩
    · exact ⟨_, [], rfl, .of D s1, e1, rfl, fun _ h => nomatch h⟩
    · rintro i σ H2 hi ⟨y3, us, rfl, S, eL, hl, hs⟩
      refine ⟨.ref L, rfl, .inl ⟨rfl, _, .inl (.inl eL)⟩, ?_⟩
      refine ⟨.ref d, rfl, d, l, 8, rfl, by decide, by decide, S.deck, fun way G1 a0 a1 S1 => ⟨.ref d, rfl, d, l, 100003, rfl, by decide, by decide, S1.deck, fun place G2 b0 b1 S2 => ⟨.ref d, rfl, d, l, 99991, rfl, by decide, by decide, S2.deck, fun what G3 c0 c1 S3 => ⟨.ref d, rfl, d, l, 3, rfl, by decide, by decide, S3.deck, fun more G4 d0 d1 S4 => ?_⟩⟩⟩⟩
      refine ⟨(by show 4 ≤ sizeLine; decide), fun p G5 n5 s5 e5 => ?_⟩
      have SS := S1.trans (S2.trans (S3.trans (S4.trans (Step.of S4.deck s5))))
      have eL5 := SS.at nd.1 nd.2 eL
      refine ⟨L, _, .ref p, rfl, rfl, eL5, small1000 (by omega), _, us ++ [.ref p], rfl, (S.trans SS).updN nd.1 nd.2 n1, upd_same, by rw [List.length_append, hl]; rfl, fun u hu => ?_⟩
      rcases List.mem_append.mp hu with hu | hu
      · exact ((hs u hu).step SS S.deck).upd eL5
      · rw [List.mem_singleton.mp hu]
        exact ⟨p, way, place, what, more, rfl, updT eL5 (.inl (.inl e5)), ⟨a0, a1⟩, ⟨b0, b1⟩, c0, c1⟩
    · rintro σ H2 ⟨y3, us, rfl, S, eL, hl, hs⟩
      exact ⟨_, rfl, q L H2 us n1 S nd eL hl hs⟩

theorem ok_law_corner {f : Addr} {fd : FuncData} (F : Fun K "_law_corner" "_law_corner" s_law_corner f fd) (T : Bt mg) (D_law_draw : Def P w K mg base 1 "_law_draw" ["_law_deck_here", "_law_most"] spDraw) :
    FnG P w K mg base CX0 2 f fd ["_law_deck_here", "_law_way"] spCorner20 := by
  refine okG (k := 1) F sc_law_corner (fun vs H Q E h => ?_) (fun cdv A outer s H vs Q E hr h => ?_)
  · obtain ⟨d, l, way, rfl, _⟩ := h
    rfl
  · obtain ⟨d, l, way, rfl, D, q⟩ := h
    refine ⟨_, (pss_cons (ps_if (pt_cmpR op_lt (pv 1) pe_int (nomark _)) (pss_one (ps_ret (tupN (pa_cons (pe_op op_sub (callD D_law_draw (hr.mono (by decide)) (pa_cons (pv 0) (pa_cons pe_int pa_nil))) pe_int) (pa_cons (pe_op op_sub (callD D_law_draw (hr.mono (by decide)) (pa_cons (pv 0) (pa_cons pe_int pa_nil))) pe_int) pa_nil))))) pss_nil)
      (pss_cons (ps_if (pt_cmpR op_eq (pv 1) pe_int (nomark _)) (pss_one (ps_ret (tupN (pa_cons (pe_op op_sub (callD D_law_draw (hr.mono (by decide)) (pa_cons (pv 0) (pa_cons (pe_op op_add (pe_op op_mul pe_int (pe_op op_pow pe_int pe_int)) pe_int) pa_nil))) (pe_op op_pow pe_int pe_int)) (pa_cons (pe_ix ix_list (lstN (pa_cons (pe_op op_pow pe_int pe_int) (pa_cons (pe_un un_neg (pe_op op_pow pe_int pe_int)) pa_nil))) (callD D_law_draw (hr.mono (by decide)) (pa_cons (pv 0) (pa_cons pe_int pa_nil))) (fun _ _ => rfl)) pa_nil))))) pss_nil)
      (pss_one (ps_ret (tupN (pa_cons (pe_op op_mul (callD D_law_draw (hr.mono (by decide)) (pa_cons (pv 0) (pa_cons (pe_op op_pow pe_int pe_int) pa_nil))) (pe_op op_pow pe_int pe_int)) (pa_cons (pe_op op_sub pe_int (callD D_law_draw (hr.mono (by decide)) (pa_cons (pv 0) (pa_cons (pe_op op_pow pe_int pe_int) pa_nil)))) pa_nil))))))), ?_⟩
    refine ⟨_, rfl, _, _, rfl, rfl, _, rfl, ite2 (fun e => ?_) (fun e => ?_)⟩
    · refine ⟨.ref d, rfl, d, l, 5, rfl, by decide, by decide, D, fun x H1 x0 x1 S1 => ⟨_, _, rfl, rfl, .ref d, rfl, d, l, 5, rfl, by decide, by decide, S1.deck, fun y H2 y0 y1 S2 => ⟨_, _, rfl, rfl, (by show 2 ≤ sizeLine; decide), fun p H3 n3 s3 g3 => ?_⟩⟩⟩
      exact q _ (x - 2, y - 2) H3 ((S1.trans S2).trans (Step.of S2.deck s3)) ⟨p, rfl, g3⟩ ⟨by show (x - 2).natAbs ≤ _; omega, by show (y - 2).natAbs ≤ _; omega⟩
    · refine ⟨_, rfl, rfl, _, rfl, ite2 (fun e => ?_) (fun e => ?_)⟩
      · refine ⟨.ref d, rfl, 10, 6, rfl, rfl, ⟨by decide, by decide, by decide⟩, _, _, rfl, rfl, .inl (by decide), _, _, rfl, rfl, d, l, 2000001, rfl, by decide, by decide, D, fun x H1 x0 x1 S1 => ?_⟩
        refine ⟨10, 6, rfl, rfl, ⟨by decide, by decide, by decide⟩, _, _, rfl, rfl, 10, 6, rfl, rfl, ⟨by decide, by decide, by decide⟩, 10, 6, rfl, rfl, ⟨by decide, by decide, by decide⟩, _, rfl, (by show 2 ≤ sizeLine; decide), fun p4 H4 n4 s4 g4 => ?_⟩
        have S4 := S1.trans (Step.of S1.deck s4)
        refine ⟨.ref d, rfl, d, l, 2, rfl, by decide, by decide, S4.deck, fun z H5 z0 z1 S5 => ?_⟩
        have np := S1.deck.nd n4
        have g5 := S5.at np.1 np.2 g4
        have e6 : (10 : Int) ^ (6 : Int).toNat = 1000000 := by decide
        have ez : z = 0 ∨ z = 1 := by omega
        rcases ez with rfl | rfl
        · refine ⟨p4, _, 0, _, rfl, rfl, .inl (.inl g5), rfl, (by show 2 ≤ sizeLine; decide), fun p H6 n6 s6 g6 => ?_⟩
          exact q _ (x - 10 ^ (6 : Int).toNat, 10 ^ (6 : Int).toNat) H6 ((S4.trans S5).trans (Step.of S5.deck s6)) ⟨p, rfl, g6⟩ ⟨by show (x - 10 ^ (6 : Int).toNat).natAbs ≤ _; rw [e6]; omega, by show ((10 : Int) ^ (6 : Int).toNat).natAbs ≤ _; rw [e6]; decide⟩
        · refine ⟨p4, _, 1, _, rfl, rfl, .inl (.inl g5), rfl, (by show 2 ≤ sizeLine; decide), fun p H6 n6 s6 g6 => ?_⟩
          exact q _ (x - 10 ^ (6 : Int).toNat, -(10 ^ (6 : Int).toNat)) H6 ((S4.trans S5).trans (Step.of S5.deck s6)) ⟨p, rfl, g6⟩ ⟨by show (x - 10 ^ (6 : Int).toNat).natAbs ≤ _; rw [e6]; omega, by show (-((10 : Int) ^ (6 : Int).toNat)).natAbs ≤ _; rw [e6]; decide⟩
      · refine ⟨.ref d, rfl, 10, 6, rfl, rfl, ⟨by decide, by decide, by decide⟩, d, l, 1000000, rfl, by decide, by decide, D, fun x H1 x0 x1 S1 => ?_⟩
        refine ⟨10, 33, rfl, rfl, ⟨by decide, by decide, by decide⟩, _, _, rfl, rfl, .inl ⟨by omega, by omega⟩, .ref d, rfl, 10, 6, rfl, rfl, ⟨by decide, by decide, by decide⟩, d, l, 1000000, rfl, by decide, by decide, S1.deck, fun y H2 y0 y1 S2 => ⟨_, _, rfl, rfl, (by show 2 ≤ sizeLine; decide), fun p H3 n3 s3 g3 => ?_⟩⟩
        have e33 : (10 : Int) ^ (33 : Int).toNat = 1000000000000000000000000000000000 := by decide
        have e39 : 10 ^ 39 = 1000000000000000000000000000000000000000 := by decide
        exact q _ (x * 10 ^ (33 : Int).toNat, 0 - y) H3 ((S1.trans S2).trans (Step.of S2.deck s3)) ⟨p, rfl, g3⟩ ⟨by show (x * 10 ^ (33 : Int).toNat).natAbs ≤ _; rw [e33, e39]; omega, by show (0 - y).natAbs ≤ _; rw [e39]; omega⟩

end
end Cl

set_option maxHeartbeats 0
namespace Cl
open PySem PySem.Spec PyProof.Rows L2
open GxR (TabB TabG)


theorem PtsH.dp {K : PySem.W.Frag} {H : Hp} {v : V} {p : Pt} (h : PtsH H v p) : Dp K H v (pd p) := by
  obtain ⟨b, rfl, h⟩ := h
  exact .tup (.inl (.inl h)) (.cons (.int _) (.cons (.int _) .nil))
theorem PtsH.at2 {K : PySem.W.Frag} {H : Hp} {v : V} {p : Pt} (h : PtsH H v p) : At2 K H v p := by
  obtain ⟨b, e, h⟩ := h
  exact ⟨b, e, .inl (.inl h)⟩
def runP (pl : Pt) (i : Nat) : Pt := (pl.1 + (1 + (i : Int)), pl.2 - (1 + (i : Int)))
theorem shapedPt (p : Pt) : SeqAt.shaped (pd p) = true := by
  simp [SeqAt.shaped, PyData.canLay0, PyData.canLayAll0, PyData.depth, PyData.depthAll, pd]

section
variable {P : Program} {w : World} {K : PySem.W.Frag} {mg : Str → Option Value} {base : Heap}

theorem ok_law_path_drawn {f : Addr} {fd : FuncData} (F : Fun K "_law_path_drawn" "_law_path_drawn" s_law_path_drawn f fd) (T : Bt mg) (D_law_draw : Def P w K mg base 1 "_law_draw" ["_law_deck_here", "_law_most"] spDraw) (D_law_corner : Def P w K mg base 2 "_law_corner" ["_law_deck_here", "_law_way"] spCorner20) :
    FnG P w K mg base CX0 3 f fd ["_law_deck_here"] spDrawn20 := by
  refine okG (k := 2) F sc_law_path_drawn (fun vs H Q E h => ?_) (fun cdv A outer s H vs Q E hr h => ?_)
  · obtain ⟨d, l, rfl, _⟩ := h
    rfl
  · obtain ⟨d, l, rfl, D, q⟩ := h
    refine ⟨_, (pss_cons (ps_set (i := 1) sc_law_path_drawn.nd rfl (.inl rfl) (callD D_law_draw (hr.mono (by decide)) (pa_cons (pv 0) (pa_cons pe_int pa_nil))))
      (pss_cons (ps_set (i := 2) sc_law_path_drawn.nd rfl (.inl rfl) (pe_op op_add pe_int (callD D_law_draw (hr.mono (by decide)) (pa_cons (pv 0) (pa_cons pe_int pa_nil)))))
      (pss_cons (ps_set (i := 3) sc_law_path_drawn.nd rfl (.inl rfl) (pe_cmpR op_eq (callD D_law_draw (hr.mono (by decide)) (pa_cons (pv 0) (pa_cons pe_int pa_nil))) pe_int (nomark _)))
      (pss_cons (ps_set (i := 4) sc_law_path_drawn.nd rfl (.inl rfl) (pe_ix ix_list (lstN (pa_cons pe_int (pa_cons pe_int (pa_cons pe_int (pa_cons pe_int pa_nil))))) (callD D_law_draw (hr.mono (by decide)) (pa_cons (pv 0) (pa_cons pe_int pa_nil))) (fun _ _ => rfl)))
      (pss_cons (ps_set (i := 5) sc_law_path_drawn.nd rfl (.inl rfl) (lstN pa_nil))
      (pss_cons (ps_for PassesOwn.never rfl (pi_range1 (by rfl) T.range (pa_cons (pv 2) pa_nil)) (pg_name (i := 6) sc_law_path_drawn.nd rfl (.inl rfl)) (pss_cons (ps_set (i := 7) sc_law_path_drawn.nd rfl (.inl rfl) (callD D_law_corner (hr.mono (by decide)) (pa_cons (pv 0) (pa_cons (pv 1) pa_nil))))
      (pss_one (ps_if (pt_cmpR (op_notInD (Nat.lt_of_le_of_lt (Nat.add_le_add (Nat.le_add_right _ _) (by decide : 65 ≤ 200)) hr.room.un)) (pv 7) (pv 5) (by rfl)) (pss_one (ps_expr (pe_bm PySem.F.plainAttrs_list PySem.F.slot_list_append PySem.F.type_list_append mt_append (pv 5) (pa_cons (pv 7) pa_nil)))) pss_nil))))
      (cutS (ps_if (pt_val (pv 3)) (pss_cons (ps_set (i := 8) sc_law_path_drawn.nd rfl (.inr rfl) (pe_ix ix_list (pv 5) (pe_un un_neg pe_int) (fun _ _ => rfl)))
      (pss_one (ps_set (i := 5) sc_law_path_drawn.nd rfl (.inl rfl) (pe_op op_catLN (lstN (pa_cons (pv 8) pa_nil)) (pe_lc (own := [("_law_k", 6)]) (g := gName 6) (tt := tYes) (by rfl) sc_law_path_drawn.nd (pi_range2 (by rfl) T.range (pa_cons pe_int (pa_cons (pv 4) pa_nil))) (blkOk_by (own := [("_law_k", 6)]) (N := ["_law_deck_here", "_law_way", "_law_many", "_law_great", "_law_long", "_law_found", "_law_k", "_law_corner_here", "_law_last"]) (sc := defScope s_law_path_drawn) (by decide +kernel)) (fun _ _ _ _ _ => (pg_name (i := 6) sc_law_path_drawn.nd rfl (.inl rfl))) (fun _ _ _ _ _ => pts_nil) (fun _ _ _ _ _ => (tupN (pa_cons (pe_op op_add (pe_ix (ix_tupk (K := K) rfl) (pv 8) pe_int (fun _ _ => rfl)) (pv 6)) (pa_cons (pe_op op_sub (pe_ix (ix_tupk (K := K) rfl) (pv 8) pe_int (fun _ _ => rfl)) (pv 6)) pa_nil))))))))) pss_nil)
      (pss_one (ps_ret (pe_callTy call_tuple_ofN (by rfl) T.tuple (by decide +kernel) (pa_cons (pv 5) pa_nil))))))))))), ?_⟩
    refine ⟨.ref d, rfl, d, l, 4, rfl, by decide, by decide, D, fun wy H1 wy0 wy1 S1 => ?_⟩
    refine ⟨.ref d, rfl, d, l, 9, rfl, by decide, by decide, S1.deck, fun m H2 m0 m1 S2 => ⟨_, _, rfl, rfl, ?_⟩⟩
    have T2 := S1.trans S2
    refine ⟨.ref d, rfl, d, l, 8, rfl, by decide, by decide, T2.deck, fun gr H3 gr0 gr1 S3 => ⟨rfl, ?_⟩⟩
    have T3 := T2.trans S3
    generalize decide (V.int gr = V.int 5) = gb
    refine ⟨(by show 4 ≤ sizeLine; decide), fun p4 H4 n4 s4 g4 => ⟨.ref d, rfl, d, l, 4, rfl, by decide, by decide, (T3.trans (Step.of T3.deck s4)).deck, fun z H5 z0 z1 S5 => ?_⟩⟩
    have np4 := T3.deck.nd n4
    have g5 := S5.at np4.1 np4.2 g4
    have T5 := (T3.trans (Step.of T3.deck s4)).trans S5
    obtain ⟨lg, eL, lg0, lg1⟩ : ∃ lg : Int, atI [V.int 60, .int 61, .int 300, .int 2000] z = some (.int lg) ∧ 60 ≤ lg ∧ lg ≤ 2000 := by
      have : z = 0 ∨ z = 1 ∨ z = 2 ∨ z = 3 := by omega
      rcases this with rfl | rfl | rfl | rfl
      · exact ⟨60, rfl, by decide, by decide⟩
      · exact ⟨61, rfl, by decide, by decide⟩
      · exact ⟨300, rfl, by decide, by decide⟩
      · exact ⟨2000, rfl, by decide, by decide⟩
    refine ⟨p4, _, z, .int lg, rfl, rfl, .inl (.inl g5), eL, Nat.zero_le _, fun pF H6 nF s6 g6 => ?_⟩
    have np := T5.deck.nd nF
    clear g5 g4 S5 T3 T2 S3 S2 s4 n4 np4
    refine ⟨_, rfl, 1 + m, rfl, by omega, by omega, for_range (n := (1 + m).toNat) (fun i σ H' => ∃ y6 y7 y8, σ = [some (.ref d), some (.int wy), some (.int (1 + m)), some (.bl gb), some (.int lg), some (.ref pF), y6, y7, y8] ∧ Step d l H5 H' ∧
      ∃ ws ps, H' pF = some (.lst ws) ∧ AllAt (PtsH H') ws ps ∧ ps.length ≤ i ∧ (0 < i → ps ≠ []) ∧ ∀ p ∈ ps, Bd130 p) ?_ ?_ ?_⟩
    · exact ⟨_, _, _, rfl, Step.of T5.deck s6, [], [], g6, .nil, Nat.le_refl _, fun z => absurd z (Nat.lt_irrefl _), fun _ z => nomatch z⟩
    · rintro i σ HC hi ⟨y6, y7, y8, rfl, SC, ws, ps, gC, aC, lC, neC, bC⟩
      refine ⟨.ref d, rfl, .int wy, rfl, d, l, wy, rfl, SC.deck, fun v p H7 S7 hp bp => ?_⟩
      have k7 : H7 pF = some (.lst ws) := S7.at np.1 np.2 gC
      have a7 : AllAt (PtsH H7) ws ps := aC.map fun _ _ z => z.step S7 SC.deck
      have lw := a7.length
      refine ⟨v, rfl, .ref pF, rfl, pd p, ps.map pd, hp.dp, .lst (.inl (.inl k7)) (pts_dp (a7.map fun _ _ z => z.at2)), shapedPt p, shapedPts ps, _, rfl, ite2 (fun e => ?_) (fun e => ?_)⟩
      · refine ⟨.ref pF, rfl, .inl ⟨rfl, ws, .inl (.inl k7)⟩, v, rfl, pF, ws, v, rfl, rfl, k7, by rw [sizeLine_eq]; omega, ?_⟩
        refine ⟨_, _, _, rfl, (SC.trans S7).updN np.1 np.2 nF, ws ++ [v], ps ++ [p], upd_same, (a7.map fun _ _ z => PtsH.upd z k7).app (.cons (PtsH.upd hp k7) .nil), by rw [List.length_append]; show ps.length + 1 ≤ i + 1; omega, fun _ z => (by cases ps <;> cases z), fun r hr => ?_⟩
        rcases List.mem_append.mp hr with w | w
        · exact bC r w
        · rw [List.mem_singleton.mp w]; exact bp
      · refine ⟨_, _, _, rfl, SC.trans S7, ws, ps, k7, a7, by omega, fun _ z => ?_, bC⟩
        subst z
        exact e rfl
    · rintro σ HC ⟨y6, y7, y8, rfl, SC, ws, ps, gC, aC, lC, neC, bC⟩
      have TC := T5.trans SC
      have ne := neC (by omega)
      have lw := aC.length
      refine ⟨fun σ' H' => ∃ y6 y7 y8 pG ws ps, σ' = [some (.ref d), some (.int wy), some (.int (1 + m)), some (.bl gb), some (.int lg), some (.ref pG), y6, y7, y8] ∧ Step d l H H' ∧ H' pG = some (.lst ws) ∧ AllAt (PtsH H') ws ps ∧ ps ≠ [] ∧ ps.length ≤ 2000 ∧ ∀ p ∈ ps, p.1.natAbs < 2 ^ 130 ∧ p.2.natAbs < 2 ^ 130, ?_, ?_⟩
      · refine ⟨_, rfl, gb, rfl, ?_⟩
        cases gb
        · refine iteF ⟨_, _, _, pF, ws, ps, rfl, TC, gC, aC, ne, by omega, fun p hp => ?_⟩
          obtain ⟨b1, b2⟩ := bC p hp
          have : (10 : Nat) ^ 39 < 2 ^ 130 := by decide
          exact ⟨by omega, by omega⟩
        · refine iteT ?_
          obtain ⟨wl, hwl⟩ : ∃ wl, ws.getLast? = some wl := by
            cases e : ws.getLast? with
            | none =>
              rw [List.getLast?_eq_none_iff] at e
              rw [e] at lw
              exact absurd (List.length_eq_zero_iff.mp lw.symm) ne
            | some wl => exact ⟨wl, rfl⟩
          obtain ⟨ws', ews⟩ := List.getLast?_eq_some_iff.mp hwl
          have hat : ws[ws'.length]? = some wl := by rw [ews]; simp
          obtain ⟨pl, hpl, b, eb, hb⟩ := aC.get hat
          have bl := bC pl (List.mem_of_getElem? hpl)
          subst eb
          refine ⟨.ref pF, rfl, 1, rfl, pF, ws, _, .ref b, rfl, rfl, .inl (.inl gC), by rw [ews]; exact atI_last ws' _, ?_⟩
          refine ⟨.ref b, rfl, (by show 1 ≤ sizeLine; decide), fun p9 H9 n9 s9 g9 => ?_⟩
          have hb9 := s9 _ _ hb
          refine ⟨_, rfl, 1, lg, rfl, ⟨by decide, by decide, by omega, by omega⟩, fun pD nD => ?_⟩
          have en : (lg - 1).toNat + 1 ≤ 2000 := by omega
          generalize (lg - 1).toNat = n at en
          refine lcR (lo := 1) (n := n) (fun i H' => Same H9 H' ∧ ∃ us, H' pD = some (.lst us) ∧ AllAt (PtsH H') us ((List.range i).map (runP pl))) nD (fun H' e1 e2 => ⟨e1, [], e2, .nil⟩) (fun i H' hi z => ?_) (fun HZ z => ?_)
          · obtain ⟨t1, us, t2, t3⟩ := z
            have lu := t3.length
            rw [List.length_map, List.length_range] at lu
            have hbz := t1 _ _ hb9
            refine ⟨rfl, _, rfl, b, _, 0, _, rfl, rfl, .inl (.inl hbz), rfl, _, rfl, _, _, rfl, rfl, _, rfl, b, _, 1, _, rfl, rfl, .inl (.inl hbz), rfl, _, rfl, _, _, rfl, rfl, (by show 2 ≤ sizeLine; decide), fun pT HT nT sT gT => ?_⟩
            have k := sT _ _ t2
            refine ⟨us, k, by rw [sizeLine_eq]; omega, fun c o e => ?_, us ++ [.ref pT], upd_same, ?_⟩
            · rw [upd_ne (ne_of_none e nD)]; exact (t1.trans sT) _ _ e
            · rw [List.range_succ, List.map_append]
              exact (t3.map fun _ _ z => PtsH.upd (z.same sT) k).app (.cons (PtsH.upd ⟨pT, rfl, gT⟩ k) .nil)
          · obtain ⟨t1, us, t2, t3⟩ := z
            have lu := t3.length
            rw [List.length_map, List.length_range] at lu
            have g9z := t1 _ _ g9
            refine ⟨p9, pD, _, us, rfl, rfl, g9z, t2, by rw [sizeLine_eq]; show 1 + us.length ≤ _; omega, fun pG HG nG sG gG => ?_⟩
            have s9G := t1.trans sG
            refine ⟨_, _, _, pG, _, pl :: (List.range n).map (runP pl), rfl, TC.trans (Step.of TC.deck (s9.trans s9G)), gG, .cons ⟨b, rfl, s9G _ _ hb9⟩ (t3.map fun _ _ z => z.same sG), by simp, by simp; omega, fun p hp => ?_⟩
            have h39 : (10 : Nat) ^ 39 + 3000 < 2 ^ 130 := by decide
            obtain ⟨b1, b2⟩ := bl
            rcases List.mem_cons.mp hp with rfl | hp
            · exact ⟨by omega, by omega⟩
            · obtain ⟨i, hi, rfl⟩ := List.mem_map.mp hp
              have hi := List.mem_range.mp hi
              unfold runP
              exact ⟨by show (pl.1 + (1 + (i : Int))).natAbs < _; omega, by show (pl.2 - (1 + (i : Int))).natAbs < _; omega⟩
      · rintro σ' H' ⟨y6, y7, y8, pG, ws, ps, rfl, TG, gG, aG, neG, leG, bG⟩
        refine ⟨_, rfl, pG, ws, rfl, .inl (.inl gG), fun pT HT nT sT gT => ?_⟩
        exact q pT ws ps HT (TG.trans (Step.of TG.deck sT)) gT (aG.map fun _ _ z => z.same sT) neG leG bG

end
end Cl

set_option maxHeartbeats 0
namespace Cl
open PySem PySem.Spec PyProof.Rows L2
open GxR (TabB TabG)


def keyK (l : List Int) : List Key := l.map .inl
theorem keyK_inj : ∀ {a b : List Int}, keyK a = keyK b → a = b
  | [], [], _ => rfl
  | _ :: _, [], h => nomatch h
  | [], _ :: _, h => nomatch h
  | x :: a, y :: b, h => by
    obtain ⟨h1, h2⟩ := List.cons.inj h
    injection h1 with h1
    rw [h1, keyK_inj h2]
theorem keyK_kV (l : List Int) : (keyK l).map kV = l.map V.int := by
  unfold keyK
  rw [List.map_map]
  rfl
theorem keys_put20 (kvs : List (List Key × V)) (k : List Key) (v : V) (h : valV kvs k = none) : (putK kvs k v).map (·.1) = kvs.map (·.1) ++ [k] := by
  unfold putK
  rw [if_neg, List.map_append]
  · rfl
  · rw [valV_any, h]
    exact fun z => nomatch z
theorem pathD_bad {ds : List PyData} {i : Nat} {y : PyData} (h : ds[i]? = some y) (hy : ptD y = false) : pathD (.tuple ds) = false := by
  have e3 : ds.all ptD = false := Bool.eq_false_iff.mpr fun e => by
    have := List.all_eq_true.mp e y (List.mem_of_getElem? h)
    rw [this] at hy
    cases hy
  show (!ds.isEmpty && (ds.all ptD && _)) = false
  rw [e3, Bool.false_and, Bool.and_false]
theorem pathD_dup {ds : List PyData} {i : Nat} {y : PyData} (h : ds[i]? = some y) (hy : keyD y ∈ (ds.take i).map keyD) : pathD (.tuple ds) = false := by
  have e3 : ¬ (ds.map keyD).Nodup := fun nd => by
    have e : ds = ds.take i ++ (y :: ds.drop (i + 1)) := by
      have := List.take_append_drop i ds
      obtain ⟨hi, e⟩ := List.getElem?_eq_some_iff.mp h
      rw [List.drop_eq_getElem_cons hi, e] at this
      exact this.symm
    rw [e, List.map_append] at nd
    exact (List.nodup_append.mp nd).2.2 _ hy _ (List.mem_map.mpr ⟨y, List.mem_cons_self .., rfl⟩) rfl
  show (!ds.isEmpty && (ds.all ptD && decide ((ds.map keyD).Nodup))) = false
  rw [decide_eq_false e3, Bool.and_false, Bool.and_false]
theorem ptD_two (p r : PyData) : ptD (.tuple [p, r]) = (isID p && isID r) := by
  cases p <;> cases r <;> rfl
theorem ptD_len {es : List PyData} (h : es.length ≠ 2) : ptD (.tuple es) = false := by
  unfold ptD
  split
  · rename_i e
    injection e with e
    subst e
    exact absurd rfl h
  · rfl
theorem ptD_no {t : PyData} (h : ∀ ds, t ≠ .tuple ds) : ptD t = false := by
  unfold ptD
  split
  · exact absurd rfl (h _)
  · rfl
def spLIsP (K : PySem.W.Frag) : Sp := fun vs H Q _ => ∃ v t, vs = [v] ∧ Dh K H v t ∧ (∀ ds, t = .tuple ds → ds.length ≤ 60000) ∧ ∀ H', Same H H' → Q (.bl (pathD t)) H'

section
variable {P : Program} {w : World} {K : PySem.W.Frag} {mg : Str → Option Value} {base : Heap}

theorem ok_law_is_path {f : Addr} {fd : FuncData} (F : Fun K "_law_is_path" "_law_is_path" s_law_is_path f fd) (T : Bt mg) (D_law_is_whole : Def P w K mg base 1 "_law_is_whole" ["_law_thing"] (spWhole K)) :
    FnG P w K mg base CX0 2 f fd ["_law_thing"] (spLIsP K) := by
  refine okG (k := 1) F sc_law_is_path (fun vs H Q E h => ?_) (fun cdv A outer s H vs Q E hr h => ?_)
  · obtain ⟨v, t, rfl, _⟩ := h
    rfl
  · obtain ⟨v, t, rfl, hv, hl, q⟩ := h
    refine ⟨_, (pss_cons (ps_if (PW.pt (pw_or (pt_not (pt_val (pe_callB call_isi (by rfl) T.isinstance (by decide +kernel) (pa_cons (pv 0) (pa_cons (pe_bltn (v := .ty "tuple") (by rfl) T.tuple (by decide +kernel) rfl) pa_nil))))) (pw_or1 (pt_cmpR (op_eqTNil hr.room.units) (pv 0) (tupN pa_nil) (nomark _))))) (pss_one (ps_ret pe_bl)) pss_nil)
      (pss_cons (ps_set (i := 1) sc_law_is_path.nd rfl (.inl rfl) pe_dnewT)
      (pss_cons (ps_for PassesOwn.never rfl (pi_tup (pv 0)) (pg_name (i := 2) sc_law_is_path.nd rfl (.inl rfl)) (pss_cons (ps_if (PW.pt (pw_or (pt_not (pt_val (pe_callB call_isi (by rfl) T.isinstance (by decide +kernel) (pa_cons (pv 2) (pa_cons (pe_bltn (v := .ty "tuple") (by rfl) T.tuple (by decide +kernel) rfl) pa_nil))))) (pw_or1 (pt_cmpR op_ne (pe_callB call_len_seq (by rfl) T.len (by decide +kernel) (pa_cons (pv 2) pa_nil)) pe_int (nomark _))))) (pss_one (ps_ret pe_bl)) pss_nil)
      (pss_cons (ps_if (PW.pt (pw_or (pt_not (pt_val (callD D_law_is_whole (hr.mono (by decide)) (pa_cons (pe_ix ix_tup (pv 2) pe_int (fun _ _ => rfl)) pa_nil)))) (pw_or (pt_not (pt_val (callD D_law_is_whole (hr.mono (by decide)) (pa_cons (pe_ix ix_tup (pv 2) pe_int (fun _ _ => rfl)) pa_nil)))) (pw_or1 (pt_cmp (pc_din (Nat.lt_of_le_of_lt (Nat.add_le_add_left (by decide) _) hr.room.units) (pv 2) (pv 1))))))) (pss_one (ps_ret pe_bl)) pss_nil)
      (pss_one (ps_dput (Nat.lt_of_le_of_lt (Nat.add_le_add_left (by decide) _) hr.room.units) (pv 1) (pv 2) pe_bl (by rfl))))))
      (pss_one (ps_ret pe_bl))))), ?_⟩
    obtain ⟨U, hk, ht, _⟩ := hv.kd
    refine ⟨_, rfl, _, _, _, _, _, rfl, .ty _, hk.ty, kit_ty hk.tuple?, _, rfl, ?_⟩
    by_cases e0 : U = "tuple"
    · obtain ⟨ds, rfl⟩ := ht.mp e0
      rw [decide_eq_true e0]
      cases hv with
      | @tup a xs _ hS hall =>
      have lx := hall.len
      have l60 := hl ds rfl
      refine iteF ⟨_, rfl, Nat.zero_le _, fun p1 H1 n1 s1 e1 => ⟨a, p1, xs, rfl, rfl, seT s1 (.inl (.inl hS)), .inl (.inl e1), _, rfl, ?_⟩⟩
      cases hE : xs.isEmpty
      · refine iteF ?_
        intro pD nD
        have s0 := same_new (o := .dT []) nD
        have g0 : (upd H1 pD (.dT [])) pD = some (.dT []) := upd_same
        have nD0 := nD
        refine ⟨_, rfl, a, rfl, ⟨_, .inl (.inl (s0 _ _ (s1 _ _ hS)))⟩, for_tup (K := K) (a := a) (xs := xs) (fun i σ H' => ∃ y2, σ = [some (.ref a), some (.ref pD), y2] ∧ Same H1 H' ∧ ∃ kvs : List (List Key × V), H' pD = some (.dT kvs) ∧ kvs.map (·.1) = ((ds.take i).map keyD).map keyK ∧ ((ds.take i).map keyD).Nodup ∧ (ds.take i).all ptD = true) ?_ (fun i σ H' _ z => ?_) (fun i x σ H2 hx z => ?_) (fun σ H2 z => ?_)⟩
        · exact ⟨_, rfl, s0, [], g0, rfl, .nil, rfl⟩
        · obtain ⟨_, _, z, _⟩ := z
          exact .inl (.inl (z _ _ (s1 _ _ hS)))
        · obtain ⟨y2, rfl, t1, kvs, t2, t3, t4, t5⟩ := z
          obtain ⟨y, ey, hy0⟩ := hall.at hx
          have hy := hy0.same (s1.trans t1)
          obtain ⟨W, wk, wt, _⟩ := hy.kd
          have no : ∀ H', Same H1 H' → pathD (.tuple ds) = false → Q (.bl false) H' := fun H' s e => by
            have := q H' (s1.trans s)
            rw [e] at this
            exact this
          refine ⟨_, rfl, _, _, _, _, _, rfl, .ty _, wk.ty, kit_ty wk.tuple?, _, rfl, ?_⟩
          by_cases e2 : W = "tuple"
          · obtain ⟨es, rfl⟩ := wt.mp e2
            rw [decide_eq_true e2]
            cases hy with
            | @tup c us _ hc hes =>
            have le := hes.len
            refine iteF ⟨_, rfl, c, us, rfl, .inr (.inl (.inl hc)), rfl, _, rfl, ?_⟩
            by_cases h2 : es.length = 2
            · have h2u : us.length = 2 := by omega
              rw [decide_eq_true (congrArg V.int (show ((us.length : Nat) : Int) = 2 by omega))]
              refine iteF ?_
              match us, es, hes, h2 with
              | [u, w], [p, r], .cons hu (.cons hw .nil), _ =>
              obtain ⟨Tu, ku, _⟩ := hu.kd
              obtain ⟨Tw, kw, _⟩ := hw.kd
              refine ⟨_, rfl, c, _, 0, u, rfl, rfl, .inl (.inl hc), rfl, u, Tu, rfl, ku, _, rfl, ?_⟩
              rw [hu.isI]
              cases hp : isID p
              · refine iteT (iteT ?_)
                exact no H2 t1 (pathD_bad ey (by rw [ptD_two, hp]; rfl))
              · refine iteF ⟨_, rfl, c, _, 1, w, rfl, rfl, .inl (.inl hc), rfl, w, Tw, rfl, kw, _, rfl, ?_⟩
                rw [hw.isI]
                cases hr2 : isID r
                · refine iteT (iteT ?_)
                  exact no H2 t1 (pathD_bad ey (by rw [ptD_two, hp, hr2]; rfl))
                · obtain ⟨ia, rfl⟩ : ∃ i, p = .int i := by cases p <;> first | exact ⟨_, rfl⟩ | cases hp
                  obtain ⟨ib, rfl⟩ : ∃ i, r = .int i := by cases r <;> first | exact ⟨_, rfl⟩ | cases hr2
                  cases hu
                  cases hw
                  have hcK : H2 c = some (.tup ((keyK [ia, ib]).map kV)) := hc
                  refine iteF ⟨.ref c, rfl, .ref pD, rfl, pD, _, rfl, .t t2 hcK, _, rfl, ?_⟩
                  cases hV : valV kvs (keyK [ia, ib]) with
                  | some b =>
                    refine iteT ?_
                    have hin := valV_in hV
                    rw [t3] at hin
                    obtain ⟨kk, hk1, hk2⟩ := List.mem_map.mp hin
                    have := keyK_inj hk2
                    subst this
                    exact no H2 t1 (pathD_dup ey hk1)
                  | none =>
                    refine iteF ?_
                    have lkv : kvs.length ≤ i := by
                      have := congrArg List.length t3
                      rw [List.length_map, List.length_map, List.length_map, List.length_take] at this
                      omega
                    have hi : i < xs.length := (List.getElem?_eq_some_iff.mp hx).1
                    refine ⟨.ref pD, rfl, .ref c, rfl, pD, _, rfl, .t t2 hcK (by rw [sizeLine_eq]; omega), _, rfl, fun b o e => ?_, putK kvs (keyK [ia, ib]) (.bl true), upd_same, ?_, ?_, ?_⟩
                    · rw [upd_ne (ne_of_none e nD)]; exact t1 _ _ e
                    · rw [keys_put20 _ _ _ hV, t3, List.take_succ, ey, Option.toList_some, List.map_append, List.map_append]
                      rfl
                    · rw [List.take_succ, ey, Option.toList_some, List.map_append]
                      refine List.nodup_append.mpr ⟨t4, List.pairwise_singleton _ _, fun x hx y hy e => ?_⟩
                      rw [List.map_singleton, List.mem_singleton] at hy
                      subst hy
                      subst e
                      refine valV_not hV ?_
                      rw [t3]
                      exact List.mem_map.mpr ⟨_, hx, rfl⟩
                    · rw [List.take_succ, ey, Option.toList_some, List.all_append, t5]
                      rfl
            · rw [decide_eq_false fun e => h2 (by injection e with e; omega)]
              refine iteT ?_
              exact no H2 t1 (pathD_bad ey (ptD_len h2))
          · rw [decide_eq_false e2]
            refine iteT (iteT ?_)
            exact no H2 t1 (pathD_bad ey (ptD_no fun ds e => e2 (wt.mpr ⟨ds, e⟩)))
        · obtain ⟨y2, rfl, t1, kvs, t2, t3, t4, t5⟩ := z
          have := q H2 (s1.trans t1)
          rw [lx, List.take_length] at t4 t5
          rw [show pathD (.tuple ds) = true from by
            have ne : ds.isEmpty = false := by
              cases ds with
              | nil => rw [List.length_nil] at lx; rw [List.length_eq_zero_iff.mp lx] at hE; cases hE
              | cons _ _ => rfl
            show (!ds.isEmpty && (ds.all ptD && decide ((ds.map keyD).Nodup))) = true
            rw [ne, t5, decide_eq_true t4]
            rfl] at this
          exact this
      · have := q H1 s1
        rw [show pathD (.tuple ds) = false from by
          cases ds with
          | nil => rfl
          | cons _ _ =>
            cases xs with
            | nil => cases lx
            | cons _ _ => cases hE] at this
        exact iteT this
    · have := q H (.refl _)
      rw [pathD_no fun ds e => e0 (ht.mpr ⟨ds, e⟩)] at this
      rw [decide_eq_false e0]
      exact iteT (iteT this)

end
end Cl

set_option maxHeartbeats 0
namespace Cl
open PySem PySem.Spec PyProof.Rows L2
open GxR (TabB TabG)


theorem rep_one {d : PyData} (h : RepOk d) : d.showable = true ∧ d.depth ≤ 60 ∧ d.shown.length ≤ sizeLine := by
  obtain ⟨c1, c2, c3, c4⟩ := h
  refine ⟨c2, by omega, ?_⟩
  have h1 := PyData.shown_le_bulk 200 (by decide) d c1
  have e3 : sizeLine = 16777216 := by decide
  omega
def OkT (t : PyData) : Prop := RepOk t ∧ tl t < 2048
theorem OkT.len {t : PyData} (h : OkT t) : ∀ ds, t = .tuple ds → ds.length < 2048 := fun ds e => by
  have := h.2
  rw [e] at this
  exact this
def spRight20 (K : PySem.W.Frag) (P P2 : Addr) : Sp := fun vs H Q _ => ∃ v t, vs = [v] ∧ TabG H P ∧ TabG H P2 ∧ Dh K H v t ∧ OkT t ∧ ∀ H', Same H H' → Q (.bl true) H'

section
variable {P : Program} {w : World} {K : PySem.W.Frag} {mg : Str → Option Value} {base : Heap}

theorem ok_law_right {f Pt Pa : Addr} {fd : FuncData} (F : Fun K "_law_right" "_law_right" s_law_right f fd) (T : Bt mg) (Dis_path : Def P w K mg base 6 "is_path" ["thing"] (spIsP K Pa Pt)) (D_law_is_path : Def P w K mg base 2 "_law_is_path" ["_law_thing"] (spLIsP K)) :
    FnG P w K mg base CX0 7 f fd ["_law_thing"] (spRight20 K Pa Pt) := by
  refine okG (k := 6) F sc_law_right (fun vs H Q E h => ?_) (fun cdv A outer s H vs Q E hr h => ?_)
  · obtain ⟨v, t, rfl, _⟩ := h
    rfl
  · obtain ⟨v, t, rfl, hTa, hT, hv, ok, q⟩ := h
    refine ⟨_, (pss_cons (ps_set (i := 1) sc_law_right.nd rfl (.inl rfl) (pe_callB (call_reprQ hr.gd hr.room.units) (by rfl) T.repr (by decide +kernel) (pa_cons (pv 0) pa_nil)))
      (pss_cons (ps_set (i := 2) sc_law_right.nd rfl (.inl rfl) (callD D_law_is_path (hr.mono (by decide)) (pa_cons (pv 0) pa_nil)))
      (pss_cons (ps_for PassesOwn.never rfl (pi_range1 (by rfl) T.range (pa_cons pe_int pa_nil)) (pg_name (i := 3) sc_law_right.nd rfl (.inl rfl)) (pss_cons (ps_set (i := 4) sc_law_right.nd rfl (.inl rfl) (callD Dis_path (hr.mono (by decide)) (pa_cons (pv 0) pa_nil)))
      (pss_one (ps_if (PW.pt (pw_or (pt_not (pt_val (pe_callB call_isi (by rfl) T.isinstance (by decide +kernel) (pa_cons (pv 4) (pa_cons (pe_bltn (v := .ty "bool") (by rfl) T.bool (by decide +kernel) rfl) pa_nil))))) (pw_or1 (pt_cmpR op_ne (pv 4) (pv 2) (nomark _))))) (pss_one (ps_ret pe_bl)) pss_nil))))
      (pss_one (ps_ret (pe_cmpR op_eq (pe_callB (call_reprQ hr.gd hr.room.units) (by rfl) T.repr (by decide +kernel) (pa_cons (pv 0) pa_nil)) (pv 1) (nomark _))))))), ?_⟩
    obtain ⟨rs, rd, rl⟩ := rep_one ok.1
    refine ⟨_, rfl, v, t, rfl, hv.dq, rs, rd, rl, ?_⟩
    refine ⟨_, rfl, v, t, rfl, hv, fun ds e => by have := ok.len ds e; omega, fun H1 s1 => ?_⟩
    refine ⟨2, rfl, by decide, by decide, for_range (n := 2) (fun i σ H' => ∃ y3 y4, σ = [some v, some (.str t.shown), some (.bl (pathD t)), y3, y4] ∧ Same H H') ?_ ?_ ?_⟩
    · exact ⟨_, _, rfl, s1⟩
    · rintro i σ H2 hi ⟨y3, y4, rfl, s2⟩
      refine ⟨_, rfl, v, t, rfl, s2.tab hTa, s2.tab hT, hv.same s2, ok.len, fun H3 s3 => ?_⟩
      have kB : Kd K H3 (.bl (pathD t)) "bool" := .bl _
      refine ⟨_, rfl, _, _, _, _, _, rfl, .ty _, kB.ty, kit_ty kB.bool?, _, rfl, iteF ?_⟩
      refine ⟨_, rfl, _, rfl, rfl, _, rfl, ?_⟩
      rw [decide_eq_true rfl]
      exact iteF ⟨_, _, rfl, s2.trans s3⟩
    · rintro σ H2 ⟨y3, y4, rfl, s2⟩
      refine ⟨_, rfl, v, t, rfl, (hv.same s2).dq, rs, rd, rl, _, rfl, rfl, ?_⟩
      rw [decide_eq_true rfl]
      exact q H2 s2

end
end Cl

set_option maxHeartbeats 0
namespace Cl
open PySem PySem.Spec PyProof.Rows L2
open GxR (TabB TabG)


def deepD : Nat → PyData
  | 0 => .tuple []
  | n + 1 => .tuple [deepD n]
theorem deep_keep {K : PySem.W.Frag} {H H' : Hp} (kt : ∀ a xs, H a = some (.tup xs) → H' a = some (.tup xs)) : ∀ (n : Nat) (v : V), Dh K H v (deepD n) → Dh K H' v (deepD n)
  | 0, _, h => by
    cases h with
    | tup h1 h2 =>
      cases h2
      exact .tup (kt _ _ h1) .nil
  | n + 1, _, h => by
    cases h with
    | tup h1 h2 =>
      cases h2 with
      | cons h3 h4 =>
        cases h4
        exact .tup (kt _ _ h1) (.cons (deep_keep kt n _ h3) .nil)
theorem deep_gk : ∀ n, Gk 0 (n + 1) (deepD n)
  | 0 => .tup fun _ z => nomatch z
  | n + 1 => .tup fun x hx => by
    rw [List.mem_singleton.mp hx]
    exact deep_gk n
theorem deep_bulk : ∀ n, (deepD n).bulk = n
  | 0 => rfl
  | n + 1 => by
    show (deepD n).bulk + 1 + 0 = n + 1
    rw [deep_bulk n]
theorem deep_ok : OkT (deepD 20) := ⟨(deep_gk 20).rep (by decide) (by decide) (by rw [deep_bulk]; decide), by show 1 < 2048; decide⟩
def pathT (ps : List Pt) : PyData := .tuple (ps.map pd)
theorem pts_dh {K : PySem.W.Frag} {H : Hp} : ∀ {xs : List V} {ps : List Pt}, AllAt (PtsH H) xs ps → DhAll K H xs (ps.map pd)
  | _, _, .nil => .nil
  | _, _, .cons h t => by
    obtain ⟨b, rfl, hb⟩ := h
    exact .cons (.tup hb (.cons (.int _) (.cons (.int _) .nil))) (pts_dh t)
theorem pd_gk {p : Pt} (h : p.1.natAbs < 2 ^ 130 ∧ p.2.natAbs < 2 ^ 130) : Gk 0 1 (pd p) := .tup fun x hx => by
  simp only [List.mem_cons, List.not_mem_nil, or_false] at hx
  rcases hx with rfl | rfl
  · exact gInt0 h.1
  · exact gInt0 h.2
theorem pts_gk {ps : List Pt} (h : ∀ p ∈ ps, p.1.natAbs < 2 ^ 130 ∧ p.2.natAbs < 2 ^ 130) : ∀ x ∈ ps.map pd, Gk 0 1 x := fun x hx => by
  obtain ⟨p, hp, rfl⟩ := List.mem_map.mp hx
  exact pd_gk (h p hp)
theorem pts_bulk : ∀ ps : List Pt, PyData.bulkAll (ps.map pd) = 3 * ps.length
  | [] => rfl
  | p :: ps => by
    have := pts_bulk ps
    show (0 + 1 + (0 + 1 + 0)) + 1 + PyData.bulkAll (ps.map pd) = 3 * (ps.length + 1)
    omega
def IsPd (x : PyData) : Prop := ∃ p : Pt, x = pd p ∧ (p.1.natAbs < 2 ^ 130 ∧ p.2.natAbs < 2 ^ 130)
theorem pds_bulk : ∀ {es : List PyData}, (∀ x ∈ es, IsPd x) → PyData.bulkAll es = 3 * es.length
  | [], _ => rfl
  | e :: es, h => by
    have := pds_bulk fun x hx => h x (List.mem_cons_of_mem _ hx)
    obtain ⟨p, rfl, _⟩ := h e (List.mem_cons_self ..)
    show (0 + 1 + (0 + 1 + 0)) + 1 + PyData.bulkAll es = 3 * (es.length + 1)
    omega
theorem parts_ok {es : List PyData} (h : ∀ x ∈ es, IsPd x) (l : es.length ≤ 2002) : OkT (.tuple es) ∧ OkT (.list es) := by
  have g : ∀ x ∈ es, Gk 0 1 x := fun x hx => by
    obtain ⟨p, rfl, b⟩ := h x hx
    exact pd_gk b
  have bk := pds_bulk h
  refine ⟨⟨(Gk.tup g).rep (by decide) (by decide) ?_, by show es.length < 2048; omega⟩, ⟨(Gk.lst g).rep (by decide) (by decide) ?_, by show 0 < 2048; decide⟩⟩
  · show PyData.bulkAll es ≤ _
    omega
  · show PyData.bulkAll es ≤ _
    omega
theorem pds_is {ps : List Pt} (h : ∀ p ∈ ps, p.1.natAbs < 2 ^ 130 ∧ p.2.natAbs < 2 ^ 130) : ∀ x ∈ ps.map pd, IsPd x := fun x hx => by
  obtain ⟨p, hp, rfl⟩ := List.mem_map.mp hx
  exact ⟨p, rfl, h p hp⟩
theorem path_ok {ps : List Pt} (h : ∀ p ∈ ps, p.1.natAbs < 2 ^ 130 ∧ p.2.natAbs < 2 ^ 130) (l : ps.length ≤ 2002) : OkT (pathT ps) := by
  refine ⟨(Gk.tup (pts_gk h)).rep (by decide) (by decide) ?_, ?_⟩
  · show PyData.bulkAll (ps.map pd) ≤ _
    rw [pts_bulk]
    omega
  · show (ps.map pd).length < 2048
    rw [List.length_map]
    omega
theorem ok_wrap {ps : List Pt} (h : ∀ p ∈ ps, p.1.natAbs < 2 ^ 130 ∧ p.2.natAbs < 2 ^ 130) (l : ps.length ≤ 2002) : OkT (.tuple [pathT ps]) := by
  have g : Gk 0 2 (pathT ps) := .tup (pts_gk h)
  refine ⟨(Gk.tup fun x hx => by rw [List.mem_singleton.mp hx]; exact g).rep (by decide) (n := 3) (by decide) ?_, by show 1 < 2048; decide⟩
  show PyData.bulkAll (ps.map pd) + 1 + 0 ≤ _
  rw [pts_bulk]
  omega
/-- small data of small numbers -/
def smallD : Nat → PyData → Bool
  | _, .none => true
  | _, .bool _ => true
  | _, .int i => decide (i.natAbs < 1000)
  | _, .str _ => false
  | 0, _ => false
  | n + 1, .list ds => ds.all (smallD n)
  | n + 1, .tuple ds => ds.all (smallD n)
  | _, .dict _ => false
theorem small_gk : ∀ (n : Nat) (d : PyData), smallD n d = true → Gk 0 n d
  | _, .none, _ => .lf trivial
  | _, .bool _, _ => .lf trivial
  | n, .int i, h => gInt0 (by
      have : i.natAbs < 1000 := by
        cases n <;> exact of_decide_eq_true h
      have : 1000 < 2 ^ 130 := by decide
      omega)
  | 0, .str _, h => nomatch h
  | n + 1, .str _, h => nomatch h
  | 0, .list _, h => nomatch h
  | 0, .tuple _, h => nomatch h
  | 0, .dict _, h => nomatch h
  | n + 1, .dict _, h => nomatch h
  | n + 1, .list ds, h => .lst fun x hx => small_gk n x (List.all_eq_true.mp h x hx)
  | n + 1, .tuple ds, h => .tup fun x hx => small_gk n x (List.all_eq_true.mp h x hx)
theorem okSmall {d : PyData} (h : smallD 5 d = true) (hb : d.bulk ≤ 60000) (ht : tl d < 2048) : OkT d := ⟨(small_gk 5 d h).rep (by decide) (by decide) hb, ht⟩
theorem okN : OkT (.tuple []) := okSmall rfl (by decide) (by decide)
theorem okL : OkT (.list []) := okSmall rfl (by decide) (by decide)
theorem okE : OkT (.dict []) := ⟨⟨rfl, rfl, by simp [PyData.depth, PyData.depthKv], by decide⟩, by decide⟩
def TgD (K : PySem.W.Frag) (H : Hp) (ws : List V) : Prop := ∃ ts, DhAll K H ws ts ∧ ∀ t ∈ ts, OkT t
theorem TgD.same {K : PySem.W.Frag} {H H' : Hp} {ws : List V} (h : TgD K H ws) (s : Same H H') : TgD K H' ws := by
  obtain ⟨ts, h1, h2⟩ := h
  exact ⟨ts, h1.same s, h2⟩
theorem TgD.cons {K : PySem.W.Frag} {H : Hp} {v : V} {t : PyData} {ws : List V} (h : Dh K H v t) (o : OkT t) (r : TgD K H ws) : TgD K H (v :: ws) := by
  obtain ⟨ts, h1, h2⟩ := r
  exact ⟨t :: ts, .cons h h1, fun x hx => by
    rcases List.mem_cons.mp hx with rfl | hx
    · exact o
    · exact h2 x hx⟩
theorem TgD.nil {K : PySem.W.Frag} {H : Hp} : TgD K H [] := ⟨[], .nil, fun _ z => nomatch z⟩
theorem TgD.app {K : PySem.W.Frag} {H : Hp} {ws us : List V} (h : TgD K H ws) (r : TgD K H us) : TgD K H (ws ++ us) := by
  obtain ⟨ts, h1, h2⟩ := h
  obtain ⟨ts', h1', h2'⟩ := r
  exact ⟨ts ++ ts', DhAll.app h1 h1', fun x hx => (List.mem_append.mp hx).elim (h2 x) (h2' x)⟩
theorem DhAll.un {K : PySem.W.Frag} {M : Addr} {H : Hp} {vs : List V} {ds : List PyData} (h : DhAll K (Cl.hidL M H) vs ds) : DhAll K H vs ds := DhAll.keep (fun _ _ e => (hidL_at e).2) (fun _ _ e => (hidL_at e).2) (fun _ _ e => (hidL_at e).2) _ _ h
theorem TgD.un {K : PySem.W.Frag} {M : Addr} {H : Hp} {ws : List V} (h : TgD K (Cl.hidL M H) ws) : TgD K H ws := by
  obtain ⟨ts, h1, h2⟩ := h
  exact ⟨ts, h1.un, h2⟩
theorem TgD.at {K : PySem.W.Frag} {H : Hp} {ws : List V} {i : Nat} {v : V} (h : TgD K H ws) (e : ws[i]? = some v) : ∃ t, Dh K H v t ∧ OkT t := by
  obtain ⟨ts, h1, h2⟩ := h
  obtain ⟨t, e1, e2⟩ := h1.at e
  exact ⟨t, e2, h2 t (List.mem_of_getElem? e1)⟩
def spLaw20 (K : PySem.W.Frag) (P P2 : Addr) : Sp := fun vs H Q _ => ∃ (a : Addr) (ns : List Int), vs = [.ref a] ∧ SqL K H a (ns.map V.int) ∧ ns.length ≤ 63 ∧ TabG H P ∧ TabG H P2 ∧ ∀ H', Q (.bl true) H'
theorem stepTab {d l Pt : Addr} {H H' : Hp} (D : Deck H d l) (S : Step d l H H') (h : TabG H Pt) : TabG H' Pt := by
  obtain ⟨ns, s, c, h1, h2, _⟩ := D.ex
  obtain ⟨ps, e, t⟩ := h
  exact (S.at (ne_of e h1 (by intro z; cases z)) (ne_of e h2 (by intro z; cases z)) e) t |>.elim fun ps' q => ⟨ps', q.1, q.2⟩

section
variable {P : Program} {w : World} {K : PySem.W.Frag} {mg : Str → Option Value} {base : Heap}

theorem oklaw {f Pt Pa : Addr} {fd : FuncData} (F : Fun K "law" "law" slaw f fd) (T : Bt mg) (D_law_deck : Def P w K mg base 1 "_law_deck" ["_law_script"] (spDeck K)) (D_law_draw : Def P w K mg base 1 "_law_draw" ["_law_deck_here", "_law_most"] spDraw) (D_law_spoils : Def P w K mg base 2 "_law_spoils" ["_law_deck_here", "_law_many"] (spSpoils K)) (D_law_path_drawn : Def P w K mg base 3 "_law_path_drawn" ["_law_deck_here"] spDrawn20) (D_law_bent : Def P w K mg base 6 "_law_bent" ["_law_thing", "_law_spoil"] (spBentC K)) (D_law_right : Def P w K mg base 7 "_law_right" ["_law_thing"] (spRight20 K Pa Pt)) :
    FnG P w K mg base CX0 8 f fd ["_law_script"] (spLaw20 K Pa Pt) := by
  refine okG (k := 7) F sclaw (fun vs H Q E h => ?_) (fun cdv A outer s H vs Q E hr h => ?_)
  · obtain ⟨a, ns, rfl, _⟩ := h
    rfl
  · obtain ⟨a, ns, rfl, hS, hlen, hTa, hT, q⟩ := h
    refine ⟨_, (pss_cons (ps_set (i := 1) sclaw.nd rfl (.inl rfl) (callD D_law_deck (hr.mono (by decide)) (pa_cons (pv 0) pa_nil)))
      (pss_cons (ps_set (i := 2) sclaw.nd rfl (.inl rfl) (tupN pa_nil))
      (pss_cons (ps_for PassesOwn.never rfl (pi_range1 (by rfl) T.range (pa_cons pe_int pa_nil)) (pg_name (i := 3) sclaw.nd rfl (.inl rfl)) (pss_one (ps_set (i := 2) sclaw.nd rfl (.inl rfl) (tupN (pa_cons (pv 2) pa_nil)))))
      (pss_cons (ps_for PassesOwn.never rfl (pi_range1 (by rfl) T.range (pa_cons pe_int pa_nil)) (pg_name (i := 4) sclaw.nd rfl (.inl rfl)) (pss_cons (ps_set (i := 5) sclaw.nd rfl (.inl rfl) (callD D_law_spoils (hr.mono (by decide)) (pa_cons (pv 1) (pa_cons pe_int pa_nil))))
      (pss_cons (ps_set (i := 6) sclaw.nd rfl (.inl rfl) (callD D_law_path_drawn (hr.mono (by decide)) (pa_cons (pv 1) pa_nil)))
      (pss_cons (ps_par (i := 7) (j := 8) (by rfl) sclaw.nd rfl rfl (by decide) rfl rfl (pa_cons (callD D_law_draw (hr.mono (by decide)) (pa_cons (pv 1) (pa_cons (pe_callB call_len_seq (by rfl) T.len (by decide +kernel) (pa_cons (pv 6) pa_nil)) pa_nil))) (pa_cons (callD D_law_draw (hr.mono (by decide)) (pa_cons (pv 1) (pa_cons (pe_op op_add (pe_callB call_len_seq (by rfl) T.len (by decide +kernel) (pa_cons (pv 6) pa_nil)) pe_int) pa_nil))) pa_nil)) (by rfl))
      (pss_cons (ps_set (i := 9) sclaw.nd rfl (.inl rfl) (lstN (pa_cons (pv 6) (pa_cons (pe_op op_catTH (pe_op op_catTH (pe_slice sl_tupH (pv 6) po_none (po_some (pv 8))) (pe_slice sl_tupH (pv 6) (po_some (pv 7)) (po_some (pe_op op_add (pv 7) pe_int)))) (pe_slice sl_tupH (pv 6) (po_some (pv 8)) po_none)) (pa_cons (pe_revT (pv 6)) (pa_cons (pe_slice sl_tupH (pv 6) po_none (po_some pe_int)) pa_nil))))))
      (pss_cons (ps_for PassesOwn.never rfl (pi_list (pv 5)) (pg_tup (by rfl) (pgs_cons (pg_name (i := 10) sclaw.nd rfl (.inl rfl)) (pgs_cons (pg_name (i := 11) sclaw.nd rfl (.inl rfl)) (pgs_cons (pg_name (i := 12) sclaw.nd rfl (.inl rfl)) (pgs_cons (pg_name (i := 13) sclaw.nd rfl (.inl rfl)) pgs_nil))))) (pss_cons (ps_set (i := 14) sclaw.nd rfl (.inl rfl) (callD D_law_bent (hr.mono (by decide)) (pa_cons (pv 6) (pa_cons (tupN (pa_cons (pv 10) (pa_cons (pv 11) (pa_cons (pv 12) pa_nil)))) pa_nil))))
      (cutS (ps_if (pt_cmpR op_eq (pv 13) pe_int (nomark _)) (pss_one (ps_set (i := 14) sclaw.nd rfl (.inl rfl) (callD D_law_bent (hr.mono (by decide)) (pa_cons (pv 14) (pa_cons (tupN (pa_cons (pe_op op_mod (pv 12) pe_int) (pa_cons (pe_op op_fdiv (pv 12) pe_int) (pa_cons (pv 11) pa_nil)))) pa_nil))))) pss_nil)
      (pss_one (ps_expr (pe_bm PySem.F.plainAttrs_list PySem.F.slot_list_append PySem.F.type_list_append mt_append (pv 9) (pa_cons (pv 14) pa_nil)))))))
      (pss_cons (ps_set (i := 9) sclaw.nd rfl (.inl rfl) (pe_op op_catLN (pv 9) (lstN (pa_cons pe_non (pa_cons pe_int (pa_cons pe_bl (pa_cons pe_str (pa_cons (tupN pa_nil) (pa_cons (lstM pa_nil) (pa_cons pe_dnewK (pa_cons (tupN (pa_cons (tupN pa_nil) pa_nil)) (pa_cons (tupN (pa_cons (tupN (pa_cons pe_int pa_nil)) pa_nil)) (pa_cons (tupN (pa_cons (tupN (pa_cons pe_int (pa_cons pe_int (pa_cons pe_int pa_nil)))) pa_nil)) (pa_cons (tupN (pa_cons pe_int (pa_cons pe_int pa_nil))) (pa_cons (tupN (pa_cons (tupN (pa_cons pe_int (pa_cons pe_int pa_nil))) (pa_cons (tupN (pa_cons pe_int (pa_cons pe_int pa_nil))) pa_nil))) (pa_cons (pv 2) pa_nil))))))))))))))))
      (pss_one (ps_for PassesOwn.never rfl (pi_list (pe_op op_catLN (pv 9) (lstN (pa_cons (pe_callTy call_listM (by rfl) T.list (by decide +kernel) (pa_cons (pv 6) pa_nil)) (pa_cons (tupN (pa_cons (pv 6) pa_nil)) (pa_cons (tupN (pa_cons (lstM (pa_cons pe_int (pa_cons pe_int pa_nil))) pa_nil)) (pa_cons (tupN (pa_cons (tupN (pa_cons pe_bl (pa_cons pe_int pa_nil))) pa_nil)) (pa_cons (tupN (pa_cons (tupN (pa_cons pe_int (pa_cons pe_int pa_nil))) (pa_cons (tupN (pa_cons pe_bl (pa_cons pe_int pa_nil))) pa_nil))) (pa_cons (pv 6) pa_nil))))))))) (pg_name (i := 14) sclaw.nd rfl (.inl rfl)) (pss_one (ps_if (pt_not (pt_val (callD D_law_right (hr.mono (by decide)) (pa_cons (pv 14) pa_nil)))) (pss_one (ps_ret pe_bl)) pss_nil)))))))))))
      (pss_one (ps_ret pe_bl)))))), ?_⟩
    refine ⟨.ref a, rfl, a, ns, rfl, hS, hlen, fun d l H1 s1 D1 => ?_⟩
    refine ⟨Nat.zero_le _, fun p0 H2 n2 s2 g2 => ?_⟩
    have hTa1 := s1.tab hTa
    have hT1 := s1.tab hT
    refine ⟨20, rfl, by decide, by decide, for_range (n := 20) (fun i σ H' => ∃ w y3 y4 y5 y6 y7 y8 y9 y10 y11 y12 y13 y14, σ = [some (.ref a), some (.ref d), some w, y3, y4, y5, y6, y7, y8, y9, y10, y11, y12, y13, y14] ∧ Same H1 H' ∧ Dh K H' w (deepD i)) ?_ ?_ ?_⟩
    · exact ⟨_, _, _, _, _, _, _, _, _, _, _, _, _, rfl, s2, .tup g2 .nil⟩
    · rintro i σ H3 hi ⟨w, y3, y4, y5, y6, y7, y8, y9, y10, y11, y12, y13, y14, rfl, t1, hw⟩
      exact ⟨w, rfl, (by show 1 ≤ sizeLine; decide), fun p H4 n4 s4 g4 => ⟨_, _, _, _, _, _, _, _, _, _, _, _, _, rfl, t1.trans s4, .tup g4 (.cons (hw.same s4) .nil)⟩⟩
    · rintro σ HD ⟨w, y3, y4, y5, y6, y7, y8, y9, y10, y11, y12, y13, y14, rfl, t1', hw⟩
      have SD : Step d l H1 HD := Step.of D1 t1'
      refine ⟨6, rfl, by decide, by decide, for_range (n := 6) (fun i σ H' => ∃ y3 y4 y5 y6 y7 y8 y9 y10 y11 y12 y13 y14, σ = [some (.ref a), some (.ref d), some w, y3, y4, y5, y6, y7, y8, y9, y10, y11, y12, y13, y14] ∧ Step d l HD H') ?_ ?_ ?_⟩
      · exact ⟨_, _, _, _, _, _, _, _, _, _, _, _, rfl, .refl SD.deck⟩
      · rintro i σ HX hi ⟨y3, y4, y5, y6, y7, y8, y9, y10, y11, y12, y13, y14, rfl, SX⟩
        refine ⟨.ref d, rfl, d, l, rfl, SX.deck, fun L HA us nL SA neL eL lenL spL => ?_⟩
        refine ⟨.ref d, rfl, d, l, rfl, SA.deck, fun pa xs ps HB SB ePa aP neP leP boP => ?_⟩
        have lxs := aP.length
        have lp := List.length_pos_iff.mpr neP
        refine ⟨.ref d, rfl, .ref pa, rfl, pa, xs, rfl, .inr (.inl (.inl ePa)), d, l, ((xs.length : Nat) : Int), rfl, by omega, by omega, SB.deck, fun at_ HC at0 at1 SC => ?_⟩
        have ePc := SC.tupH SB.deck ePa
        refine ⟨.ref d, rfl, .ref pa, rfl, pa, xs, rfl, .inr (.inl (.inl ePc)), _, _, rfl, rfl, d, l, ((xs.length : Nat) : Int) + 1, rfl, by omega, by omega, SC.deck, fun to_ HE to0 to1 SE => ⟨_, _, rfl, ?_⟩⟩
        have ePe := SE.tupH SC.deck ePc
        have aE : AllAt (PtsH HE) xs ps := aP.map fun _ _ z => (z.step SC SB.deck).step SE SC.deck
        obtain ⟨at_, rfl⟩ : ∃ n : Nat, at_ = (n : Int) := ⟨at_.toNat, by omega⟩
        obtain ⟨to_, rfl⟩ : ∃ n : Nat, to_ = (n : Int) := ⟨to_.toNat, by omega⟩
        have SXE := ((SX.trans SA).trans SB).trans (SC.trans SE)
        have hwE : Dh K HE w (deepD 20) := deep_keep (fun _ _ e => SXE.tupH SD.deck e) 20 w hw
        have spE : ∀ u ∈ us, Spoil K HE u := fun u hu => ((spL u hu).step SB SA.deck).step (SC.trans SE) SB.deck
        have eLE : HE L = some (.lst us) := (SB.trans (SC.trans SE)).at neL.1 neL.2 eL
        have pdsI := pds_is boP
        have lpd : (ps.map pd).length = xs.length := by rw [List.length_map, lxs]
        refine ⟨_, rfl, _, rfl, _, rfl, _, rfl, pa, xs, rfl, ePe, fun q1 A1 t1 g1 => ?_⟩
        rw [cutV_take] at g1
        have v1 := t1
        refine ⟨_, rfl, _, rfl, _, rfl, _, rfl, _, _, rfl, rfl, _, rfl, pa, xs, rfl, (v1 _ _ ePe), fun q2 A2 t2 g2 => ?_⟩
        rw [show ((at_ : Nat) : Int) + 1 = ((at_ + 1 : Nat) : Int) from rfl, cutV_mid _ _ _ (show at_ ≤ xs.length by omega)] at g2
        have v2 := v1.trans t2
        refine ⟨q1, q2, _, _, rfl, rfl, (t2 _ _ g1), g2, fits (by simp; omega), fun q3 A3 t3 g3 => ?_⟩
        have v3 := v2.trans t3
        refine ⟨_, rfl, _, rfl, _, rfl, pa, xs, rfl, (v3 _ _ ePe), fun q4 A4 t4 g4 => ?_⟩
        rw [cutV_drop] at g4
        have v4 := v3.trans t4
        refine ⟨q3, q4, _, _, rfl, rfl, (t4 _ _ g3), g4, fits (by simp; omega), fun q5 A5 t5 g5 => ?_⟩
        have v5 := v4.trans t5
        refine ⟨_, rfl, pa, xs, rfl, .inl (.inl (v5 _ _ ePe)), fun q6 A6 m6 t6 g6 => ?_⟩
        have v6 := v5.trans t6
        refine ⟨_, rfl, 1, rfl, pa, xs, rfl, (v6 _ _ ePe), fun q7 A7 t7 g7 => ?_⟩
        rw [show (1 : Int) = ((1 : Nat) : Int) from rfl, cutV_take] at g7
        have v7 := v6.trans t7
        refine ⟨(by show 4 ≤ sizeLine; decide), fun M A8 n8 t8 g8 => ?_⟩
        have v8 := v7.trans t8
        have hp : ∀ {H' : Hp} {ws : List V}, Same A7 H' → H' M = some (.lst ws) → DhAll K (hidL M H') xs (ps.map pd) := fun s e => pts_dh (aE.map fun _ _ z => by
          obtain ⟨b, e1, hb⟩ := z
          exact ⟨b, e1, hidT ((v7.trans s) _ _ hb) e⟩)
        have hp8 := hp t8 g8
        have pathD8 : ∀ {H' : Hp} {ws : List V}, Same A7 H' → H' M = some (.lst ws) → Dh K (hidL M H') (.ref pa) (pathT ps) := fun s e => .tup (hidT ((v7.trans s) _ _ ePe) e) (hp s e)
        have T8 : TgD K (hidL M A8) [.ref pa, .ref q5, .ref q6, .ref q7] := by
          have o1 := path_ok boP (by omega)
          have o2 : OkT (.tuple ((ps.map pd).take to_ ++ ((ps.map pd).drop at_).take 1 ++ (ps.map pd).drop to_)) := (parts_ok (fun x hx => by
            rcases List.mem_append.mp hx with hx | hx
            · rcases List.mem_append.mp hx with hx | hx
              · exact pdsI x (List.mem_of_mem_take hx)
              · exact pdsI x (List.mem_of_mem_drop (List.mem_of_mem_take hx))
            · exact pdsI x (List.mem_of_mem_drop hx)) (by simp; omega)).1
          have o3 : OkT (.tuple (ps.map pd).reverse) := (parts_ok (fun x hx => pdsI x (List.mem_reverse.mp hx)) (by simp; omega)).1
          have o4 : OkT (.tuple ((ps.map pd).take 1)) := (parts_ok (fun x hx => pdsI x (List.mem_of_mem_take hx)) (by simp; omega)).1
          exact .cons (pathD8 t8 g8) o1 (.cons (.tup (hidT ((t6.trans (t7.trans t8)) _ _ g5) g8) (DhAll.app (DhAll.app (dhs_take _ hp8) (dhs_take 1 (dhs_drop _ hp8))) (dhs_drop _ hp8))) o2
            (.cons (.tup (hidT ((t7.trans t8) _ _ g6) g8) (DhAll.rev hp8)) o3 (.cons (.tup (hidT (t8 _ _ g7) g8) (dhs_take 1 hp8)) o4 .nil)))
        clear g1 g2 g3 g4 g5 g6 g7 t1 t2 t3 t4 t5 t6 t7 v1 v2 v3 v4 v5 v6
        refine ⟨_, rfl, L, rfl, ⟨_, .inl (.inl (v8 _ _ eLE))⟩, for_list (K := K) (a := L) (xs := us) (fun j σ H' => ∃ y10 y11 y12 y13 y14, σ = [some (.ref a), some (.ref d), some w, y3, some (.int (0 + (i : Nat))), some (.ref L), some (.ref pa), some (.int (at_ : Nat)), some (.int (to_ : Nat)), some (.ref M), y10, y11, y12, y13, y14] ∧ Same A7 H' ∧ ∃ ws, H' M = some (.lst ws) ∧ ws.length ≤ 4 + j ∧ TgD K (hidL M H') ws) ?_ (fun j σ H' _ z => ?_) (fun j x σ B0 hx z => ?_) (fun σ B0 z => ?_)⟩
        · exact ⟨_, _, _, _, _, rfl, t8, _, g8, Nat.le_refl _, T8⟩
        · obtain ⟨_, _, _, _, _, _, z, _⟩ := z
          exact .inl (.inl ((v7.trans z) _ _ eLE))
        · obtain ⟨y10, y11, y12, y13, y14, rfl, z1, ws, eM, lw, tg⟩ := z
          obtain ⟨c, way, place, what, more, rfl, hS4, ⟨b1, b2⟩, ⟨b3, b4⟩, b5, b6⟩ := (spE x (List.mem_of_getElem? hx)).step (Step.of SE.deck (v7.trans z1)) SE.deck
          refine ⟨c, _, rfl, hS4, rfl, _, _, rfl, _, _, rfl, _, _, rfl, _, _, rfl, rfl, ?_⟩
          have eMw := eM
          have dP := pathD8 z1 eM
          have gkP : Gk 0 2 (pathT ps) := .tup (pts_gk boP)
          have bkP : (pathT ps).bulk ≤ 6000 := by
            show PyData.bulkAll (ps.map pd) ≤ 6000
            rw [pts_bulk]
            omega
          have tlP : tl (pathT ps) ≤ 2000 := by
            show (ps.map pd).length ≤ 2000
            rw [List.length_map]
            exact leP
          refine ⟨_, rfl, _, rfl, _, rfl, _, rfl, (by show 3 ≤ sizeLine; decide), fun pT B1 nT tT gT => ⟨M, ws, .ref pa, pT, pathT ps, 0, 2, way, place, what, rfl, tT _ _ eM, .inl (.inl gT), dP.same tT.hidL, gkP, by decide, by decide, by omega, ⟨by omega, by omega⟩, ⟨by omega, by omega⟩, ⟨by omega, by omega⟩, fun w1 B2 y1 u2 d2 gk2 bk2 tl2 => ?_⟩⟩
          have eM2 := (tT.trans u2) _ _ eM
          refine ⟨fun σ' H' => ∃ v t, σ' = [some (.ref a), some (.ref d), some w, y3, some (.int (0 + (i : Nat))), some (.ref L), some (.ref pa), some (.int (at_ : Nat)), some (.int (to_ : Nat)), some (.ref M), some (.int way), some (.int place), some (.int what), some (.int more), some v] ∧ Same B2 H' ∧ Dh K (hidL M H') v t ∧ OkT t, ?_, ?_⟩
          · refine ⟨_, rfl, rfl, _, rfl, ite2 (fun e => ?_) (fun e => ?_)⟩
            · have p0 := Int.emod_nonneg what (show (8 : Int) ≠ 0 by decide)
              have p1 := Int.emod_lt_of_pos what (show (0 : Int) < 8 by decide)
              refine ⟨_, rfl, _, rfl, _, _, rfl, rfl, (by show (0 : Int) < 8; decide), _, rfl, _, _, rfl, rfl, ⟨by decide, by decide⟩, _, rfl, (by show 3 ≤ sizeLine; decide), fun pT2 B3 nT2 tT2 gT2 => ⟨M, ws, w1, pT2, y1, 1, 3, _, _, _, rfl, tT2 _ _ eM2, .inl (.inl gT2), d2.same tT2.hidL, gk2, by decide, by decide, by omega, ⟨p0, by omega⟩, ⟨by omega, by omega⟩, ⟨by omega, by omega⟩, fun w2 B4 yy2 u4 d4 gk4 bk4 tl4 => ?_⟩⟩
              exact ⟨w2, yy2, rfl, tT2.trans u4, d4, gk4.rep (by decide) (by decide) (by omega), by omega⟩
            · exact ⟨w1, y1, rfl, .refl _, d2, gk2.rep (by decide) (by decide) (by omega), by omega⟩
          · rintro σ' B5 ⟨v, t, rfl, u5, dt, okt⟩
            have sB := tT.trans (u2.trans u5)
            have eM5 := sB _ _ eM
            refine ⟨.ref M, rfl, .inl ⟨rfl, ws, .inl (.inl eM5)⟩, v, rfl, M, ws, v, rfl, rfl, eM5, by rw [sizeLine_eq]; have := (List.getElem?_eq_some_iff.mp hx).1; omega, ?_⟩
            refine ⟨_, _, _, _, _, rfl, fun b o e => ?_, ws ++ [v], upd_same, by rw [List.length_append]; show ws.length + 1 ≤ _; omega, ?_⟩
            · rw [upd_ne (ne_of_none e n8)]
              exact (z1.trans sB) _ _ e
            · rw [hidL_upd]
              exact (tg.same sB.hidL).app (.cons dt okt .nil)
        · obtain ⟨y10, y11, y12, y13, y14, rfl, z1, ws, eM, lw, tg⟩ := z
          rw [lenL] at lw
          refine ⟨_, rfl, Nat.zero_le _, fun r1 C1 o1 t1 g1 => ⟨Nat.zero_le _, fun r2 C2 m2 o2 t2 g2 => ?_⟩⟩
          intro r3 o3
          have t3 : Same C2 (upd C2 r3 (.dK [])) := same_new o3
          have g3 : (upd C2 r3 (.dK [])) r3 = some (.dK []) := upd_same
          generalize (upd C2 r3 (.dK [])) = C3 at t3 g3 ⊢
          refine ⟨Nat.zero_le _, fun r4 C4 o4 t4 g4 => ⟨(by show 1 ≤ sizeLine; decide), fun r5 C5 o5 t5 g5 => ⟨(by show 1 ≤ sizeLine; decide), fun r6 C6 o6 t6 g6 => ⟨(by show 1 ≤ sizeLine; decide), fun r7 C7 o7 t7 g7 => ⟨(by show 3 ≤ sizeLine; decide), fun r8 C8 o8 t8' g8' => ⟨(by show 1 ≤ sizeLine; decide), fun r9 C9 o9 t9 g9 => ⟨(by show 2 ≤ sizeLine; decide), fun r10 C10 o10 t10 g10 => ⟨(by show 2 ≤ sizeLine; decide), fun r11 C11 o11 t11 g11 => ⟨(by show 2 ≤ sizeLine; decide), fun r12 C12 o12 t12 g12 => ⟨(by show 2 ≤ sizeLine; decide), fun r13 C13 o13 t13 g13 => ⟨w, rfl, (by show 13 ≤ sizeLine; decide), fun r14 C14 o14 t14 g14 => ?_⟩⟩⟩⟩⟩⟩⟩⟩⟩⟩⟩
          have x14 := t14
          have x13 := t13.trans x14
          have x12 := t12.trans x13
          have x11 := t11.trans x12
          have x10 := t10.trans x11
          have x9 := t9.trans x10
          have x8 := t8'.trans x9
          have x7 := t7.trans x8
          have x6 := t6.trans x7
          have x5 := t5.trans x6
          have x4 := t4.trans x5
          have x3 := t3.trans x4
          have x2 := t2.trans x3
          have x1 := t1.trans x2
          have i0 : ∀ {H : Hp}, DhAll K H [.int 0, .int 1] [.int 0, .int 1] := .cons (.int _) (.cons (.int _) .nil)
          have T1 : TgD K C14 [.non, .int 0, .bl true, .str "", .ref r1, .ref r2, .ref r3, .ref r5, .ref r7, .ref r9, .ref r10, .ref r13, w] :=
            .cons .non ⟨⟨rfl, rfl, by decide, by decide⟩, by decide⟩ (.cons (.int 0) ⟨(gInt0 (p := 0) (n := 0) (by decide)).rep (by decide) (by decide) (by decide), by decide⟩ (.cons (.bl true) ⟨⟨rfl, rfl, by decide, by decide⟩, by decide⟩ (.cons (.str "") ⟨(gStr (p := 0) (n := 0) (by decide) (by decide)).rep (by decide) (by decide) (by decide), by decide⟩
              (.cons (.tup (x2 _ _ g1) .nil) okN (.cons (.lst m2 (x3 _ _ g2) .nil) okL (.cons (.emp (x4 _ _ g3)) okE (.cons (.tup (x6 _ _ g5) (.cons (.tup (x5 _ _ g4) .nil) .nil)) (okSmall (by decide) (by decide) (by decide))
              (.cons (.tup (x8 _ _ g7) (.cons (.tup (x7 _ _ g6) (.cons (.int _) .nil)) .nil)) (okSmall (by decide) (by decide) (by decide)) (.cons (.tup (x10 _ _ g9) (.cons (.tup (x9 _ _ g8') (.cons (.int _) (.cons (.int _) (.cons (.int _) .nil)))) .nil)) (okSmall (by decide) (by decide) (by decide))
              (.cons (.tup (x11 _ _ g10) i0) (okSmall (by decide) (by decide) (by decide)) (.cons (.tup (x14 _ _ g13) (.cons (.tup (x12 _ _ g11) i0) (.cons (.tup (x13 _ _ g12) i0) .nil))) (okSmall (by decide) (by decide) (by decide)) (.cons (hwE.same (v7.trans (z1.trans x1))) deep_ok .nil))))))))))))
          refine ⟨M, r14, ws, _, rfl, rfl, x1 _ _ eM, g14, by rw [sizeLine_eq]; show ws.length + 13 ≤ _; omega, fun M2 CF oF tF gF => ?_⟩
          have T2 := ((tg.same (x1.trans tF).hidL).un).app (T1.same tF)
          have lw2 : (ws ++ [V.non, .int 0, .bl true, .str "", .ref r1, .ref r2, .ref r3, .ref r5, .ref r7, .ref r9, .ref r10, .ref r13, w]).length ≤ 30 := by
            rw [List.length_append]
            show ws.length + 13 ≤ 30
            omega
          generalize ws ++ [V.non, .int 0, .bl true, .str "", .ref r1, .ref r2, .ref r3, .ref r5, .ref r7, .ref r9, .ref r10, .ref r13, w] = ws2 at T2 lw2 gF
          have sF := z1.trans (x1.trans tF)
          clear T1 g1 g2 g3 g4 g5 g6 g7 g8' g9 g10 g11 g12 g13 g14 t1 t2 t3 t4 t5 t6 t7 t8' t9 t10 t11 t12 t13 t14 x1 x2 x3 x4 x5 x6 x7 x8 x9 x10 x11 x12 x13 x14
          have eP := (v7.trans sF) _ _ ePe
          have aF : AllAt (PtsH CF) xs ps := aE.map fun _ _ z => z.same (v7.trans sF)
          refine ⟨_, rfl, _, rfl, pa, xs, rfl, .inl (.inl eP), fun r1 C1 m1 o1 t1 g1 => ?_⟩
          refine ⟨_, rfl, (by show 1 ≤ sizeLine; decide), fun r2 C2 o2 t2 g2 => ⟨(by show 2 ≤ sizeLine; decide), fun r3 C3 m3 o3 t3 g3 => ⟨(by show 1 ≤ sizeLine; decide), fun r4 C4 o4 t4 g4 => ⟨(by show 2 ≤ sizeLine; decide), fun r5 C5 o5 t5 g5 => ⟨(by show 1 ≤ sizeLine; decide), fun r6 C6 o6 t6 g6 => ⟨(by show 2 ≤ sizeLine; decide), fun r7 C7 o7 t7 g7 => ⟨(by show 2 ≤ sizeLine; decide), fun r8 C8 o8 t8' g8' => ⟨(by show 2 ≤ sizeLine; decide), fun r9 C9 o9 t9 g9 => ⟨_, rfl, (by show 6 ≤ sizeLine; decide), fun r10 C10 o10 t10 g10 => ?_⟩⟩⟩⟩⟩⟩⟩⟩⟩
          have x10 := t10
          have x9 := t9.trans x10
          have x8 := t8'.trans x9
          have x7 := t7.trans x8
          have x6 := t6.trans x7
          have x5 := t5.trans x6
          have x4 := t4.trans x5
          have x3 := t3.trans x4
          have x2 := t2.trans x3
          have x1 := t1.trans x2
          have dxs : DhAll K C10 xs (ps.map pd) := pts_dh (aF.map fun _ _ z => z.same x1)
          have dpa : Dh K C10 (.ref pa) (pathT ps) := .tup (x1 _ _ eP) dxs
          have i0 : ∀ {H : Hp}, DhAll K H [.int 0, .int 1] [.int 0, .int 1] := .cons (.int _) (.cons (.int _) .nil)
          have T3 : TgD K C10 [.ref r1, .ref r2, .ref r4, .ref r6, .ref r9, .ref pa] :=
            .cons (.lst m1 (x2 _ _ g1) dxs) (parts_ok pdsI (by omega)).2 (.cons (.tup (x3 _ _ g2) (.cons dpa .nil)) (ok_wrap boP (by omega)) (.cons (.tup (x5 _ _ g4) (.cons (.lst m3 (x4 _ _ g3) i0) .nil)) (okSmall (by decide) (by decide) (by decide))
              (.cons (.tup (x7 _ _ g6) (.cons (.tup (x6 _ _ g5) (.cons (.bl true) (.cons (.int _) .nil))) .nil)) (okSmall (by decide) (by decide) (by decide)) (.cons (.tup (x10 _ _ g9) (.cons (.tup (x8 _ _ g7) i0) (.cons (.tup (x9 _ _ g8') (.cons (.bl false) (.cons (.int _) .nil))) .nil))) (okSmall (by decide) (by decide) (by decide)) (.cons dpa (path_ok boP (by omega)) .nil)))))
          refine ⟨M2, r10, ws2, _, rfl, rfl, x1 _ _ gF, g10, by rw [sizeLine_eq]; show ws2.length + 6 ≤ _; omega, fun Z HZ oZ tZ gZ => ?_⟩
          have T4 := (T2.same (x1.trans tZ)).app (T3.same tZ)
          have sZ := v7.trans (sF.trans (x1.trans tZ))
          have tabA := sZ.tab (stepTab SD.deck SXE (t1'.tab hTa1))
          have tabB := sZ.tab (stepTab SD.deck SXE (t1'.tab hT1))
          refine ⟨Z, rfl, ⟨_, .inl (.inl gZ)⟩, for_list (K := K) (a := Z) (xs := ws2 ++ [V.ref r1, .ref r2, .ref r4, .ref r6, .ref r9, .ref pa]) (fun k σ H' => ∃ y10 y11 y12 y13 y14, σ = [some (.ref a), some (.ref d), some w, y3, some (.int (0 + (i : Nat))), some (.ref L), some (.ref pa), some (.int (at_ : Nat)), some (.int (to_ : Nat)), some (.ref M2), y10, y11, y12, y13, y14] ∧ Same HZ H') ?_ (fun k σ H' _ z => ?_) (fun k x σ H' hx z => ?_) (fun σ H' z => ?_)⟩
          · exact ⟨_, _, _, _, _, rfl, .refl _⟩
          · obtain ⟨_, _, _, _, _, _, z⟩ := z
            exact .inl (.inl (z _ _ gZ))
          · obtain ⟨y10, y11, y12, y13, y14, rfl, z⟩ := z
            obtain ⟨t, dt, okt⟩ := (T4.same z).at hx
            exact ⟨_, rfl, x, t, rfl, z.tab tabA, z.tab tabB, dt, okt, fun H9 s9 => ⟨_, rfl, iteF ⟨_, _, _, _, _, rfl, z.trans s9⟩⟩⟩
          · obtain ⟨y10, y11, y12, y13, y14, rfl, z⟩ := z
            exact ⟨_, _, _, _, _, _, _, _, _, _, _, _, rfl, SXE.trans (Step.of SE.deck (sZ.trans z))⟩
      · rintro σ H' ⟨y3, y4, y5, y6, y7, y8, y9, y10, y11, y12, y13, y14, rfl, SX⟩
        exact q H'

end
end Cl

set_option maxHeartbeats 0
namespace Cl
open PySem PySem.Spec PyProof.Rows L2
open GxR (TabB TabG)

def spLawTs (K : PySem.W.Frag) : List (Addr × Addr) → Sp
  | [p, p2] => spLaw20 K p.2 p2.2
  | _ => fun _ _ Q _ => ∀ H', Q (.bl true) H'
def noTab (K : PySem.W.Frag) : Bool := K.all fun p => match p.2.cls, p.2.data with
  | .none, .fields vs => vs.size != 0
  | _, _ => true
theorem noTab_at {K : PySem.W.Frag} {h : Heap} {P : Addr} (X : K.In h) (n : noTab K = true) (e : h.get? P = some { cls := .none, data := .fields #[] }) : K.lookup P = none := by
  cases q : K.lookup P with
  | none => rfl
  | some o =>
    have h1 := X _ _ q
    rw [e] at h1
    cases h1
    have hm : ∀ (L : List (Addr × Obj)) (o : Obj), L.lookup P = some o → (P, o) ∈ L := fun L => by
      induction L with
      | nil => intro o z; cases z
      | cons y L ih =>
        intro o z
        rw [List.lookup_cons] at z
        split at z
        · rename_i hb
          have := eq_of_beq hb
          cases z
          rw [this]
          exact List.mem_cons_self ..
        · exact List.mem_cons_of_mem _ (ih _ z)
    have := List.all_eq_true.mp n _ (hm _ _ q)
    cases this

theorem all_mk {l : PySem.W.OpenLaw} {w : World} {K : PySem.W.Frag} {h : Heap} {mg : Str → Option Value} {fa : Addr} (X : K.In h) (G : h.Ns mainGlobals mg) (hfa : mg "law" = some (.ref fa))
    {f_law_deck : Addr} {od_law_deck an_law_deck : Option Addr} {sl_law_deck : Array (Option Value)} {oc_law_deck kV_law_deck dc_law_deck pm_law_deck cd_law_deck ct_law_deck : Value}
    {f_law_draw : Addr} {od_law_draw an_law_draw : Option Addr} {sl_law_draw : Array (Option Value)} {oc_law_draw kV_law_draw dc_law_draw pm_law_draw cd_law_draw ct_law_draw : Value}
    {fis_whole : Addr} {odis_whole anis_whole : Option Addr} {slis_whole : Array (Option Value)} {ocis_whole kVis_whole dcis_whole pmis_whole cdis_whole ctis_whole : Value}
    {fare_wholes : Addr} {odare_wholes anare_wholes : Option Addr} {slare_wholes : Array (Option Value)} {ocare_wholes kVare_wholes dcare_wholes pmare_wholes cdare_wholes ctare_wholes : Value}
    {fis_path : Addr} {odis_path anis_path : Option Addr} {slis_path : Array (Option Value)} {ocis_path kVis_path dcis_path pmis_path cdis_path ctis_path : Value}
    {f_law_is_whole : Addr} {od_law_is_whole an_law_is_whole : Option Addr} {sl_law_is_whole : Array (Option Value)} {oc_law_is_whole kV_law_is_whole dc_law_is_whole pm_law_is_whole cd_law_is_whole ct_law_is_whole : Value}
    {f_law_spots : Addr} {od_law_spots an_law_spots : Option Addr} {sl_law_spots : Array (Option Value)} {oc_law_spots kV_law_spots dc_law_spots pm_law_spots cd_law_spots ct_law_spots : Value}
    {f_law_with : Addr} {od_law_with an_law_with : Option Addr} {sl_law_with : Array (Option Value)} {oc_law_with kV_law_with dc_law_with pm_law_with cd_law_with ct_law_with : Value}
    {f_law_bent : Addr} {od_law_bent an_law_bent : Option Addr} {sl_law_bent : Array (Option Value)} {oc_law_bent kV_law_bent dc_law_bent pm_law_bent cd_law_bent ct_law_bent : Value}
    {f_law_spoils : Addr} {od_law_spoils an_law_spoils : Option Addr} {sl_law_spoils : Array (Option Value)} {oc_law_spoils kV_law_spoils dc_law_spoils pm_law_spoils cd_law_spoils ct_law_spoils : Value}
    {f_law_corner : Addr} {od_law_corner an_law_corner : Option Addr} {sl_law_corner : Array (Option Value)} {oc_law_corner kV_law_corner dc_law_corner pm_law_corner cd_law_corner ct_law_corner : Value}
    {f_law_path_drawn : Addr} {od_law_path_drawn an_law_path_drawn : Option Addr} {sl_law_path_drawn : Array (Option Value)} {oc_law_path_drawn kV_law_path_drawn dc_law_path_drawn pm_law_path_drawn cd_law_path_drawn ct_law_path_drawn : Value}
    {f_law_is_path : Addr} {od_law_is_path an_law_is_path : Option Addr} {sl_law_is_path : Array (Option Value)} {oc_law_is_path kV_law_is_path dc_law_is_path pm_law_is_path cd_law_is_path ct_law_is_path : Value}
    {f_law_right : Addr} {od_law_right an_law_right : Option Addr} {sl_law_right : Array (Option Value)} {oc_law_right kV_law_right dc_law_right pm_law_right cd_law_right ct_law_right : Value}
    {flaw : Addr} {odlaw anlaw : Option Addr} {sllaw : Array (Option Value)} {oclaw kVlaw dclaw pmlaw cdlaw ctlaw : Value}
    (a_law_deck : PySem.W.nsIn K mainGlobals "_law_deck" = some (some (.ref f_law_deck))) (l_law_deck : K.lookup f_law_deck = some ⟨oc_law_deck, od_law_deck, .func (PySem.W.fnOf "_law_deck" "_law_deck" (defArgs s_law_deck) (defBody s_law_deck) (defScope s_law_deck) .none kV_law_deck dc_law_deck pm_law_deck an_law_deck cd_law_deck ct_law_deck), sl_law_deck⟩) (c_law_deck : PySem.W.codeIn K cd_law_deck "_law_deck" = true) (k_law_deck : PySem.W.keepIn K (.ref f_law_deck) = true)
    (a_law_draw : PySem.W.nsIn K mainGlobals "_law_draw" = some (some (.ref f_law_draw))) (l_law_draw : K.lookup f_law_draw = some ⟨oc_law_draw, od_law_draw, .func (PySem.W.fnOf "_law_draw" "_law_draw" (defArgs s_law_draw) (defBody s_law_draw) (defScope s_law_draw) .none kV_law_draw dc_law_draw pm_law_draw an_law_draw cd_law_draw ct_law_draw), sl_law_draw⟩) (c_law_draw : PySem.W.codeIn K cd_law_draw "_law_draw" = true) (k_law_draw : PySem.W.keepIn K (.ref f_law_draw) = true)
    (ais_whole : PySem.W.nsIn K mainGlobals "is_whole" = some (some (.ref fis_whole))) (lis_whole : K.lookup fis_whole = some ⟨ocis_whole, odis_whole, .func (PySem.W.fnOf "is_whole" "is_whole" (defArgs sis_whole) (defBody sis_whole) (defScope sis_whole) .none kVis_whole dcis_whole pmis_whole anis_whole cdis_whole ctis_whole), slis_whole⟩) (cis_whole : PySem.W.codeIn K cdis_whole "is_whole" = true) (kis_whole : PySem.W.keepIn K (.ref fis_whole) = true)
    (aare_wholes : PySem.W.nsIn K mainGlobals "are_wholes" = some (some (.ref fare_wholes))) (lare_wholes : K.lookup fare_wholes = some ⟨ocare_wholes, odare_wholes, .func (PySem.W.fnOf "are_wholes" "are_wholes" (defArgs sare_wholes) (defBody sare_wholes) (defScope sare_wholes) .none kVare_wholes dcare_wholes pmare_wholes anare_wholes cdare_wholes ctare_wholes), slare_wholes⟩) (care_wholes : PySem.W.codeIn K cdare_wholes "are_wholes" = true) (kare_wholes : PySem.W.keepIn K (.ref fare_wholes) = true)
    (ais_path : PySem.W.nsIn K mainGlobals "is_path" = some (some (.ref fis_path))) (lis_path : K.lookup fis_path = some ⟨ocis_path, odis_path, .func (PySem.W.fnOf "is_path" "is_path" (defArgs sis_path) (defBody sis_path) (defScope sis_path) .none kVis_path dcis_path pmis_path anis_path cdis_path ctis_path), slis_path⟩) (cis_path : PySem.W.codeIn K cdis_path "is_path" = true) (kis_path : PySem.W.keepIn K (.ref fis_path) = true)
    (a_law_is_whole : PySem.W.nsIn K mainGlobals "_law_is_whole" = some (some (.ref f_law_is_whole))) (l_law_is_whole : K.lookup f_law_is_whole = some ⟨oc_law_is_whole, od_law_is_whole, .func (PySem.W.fnOf "_law_is_whole" "_law_is_whole" (defArgs s_law_is_whole) (defBody s_law_is_whole) (defScope s_law_is_whole) .none kV_law_is_whole dc_law_is_whole pm_law_is_whole an_law_is_whole cd_law_is_whole ct_law_is_whole), sl_law_is_whole⟩) (c_law_is_whole : PySem.W.codeIn K cd_law_is_whole "_law_is_whole" = true) (k_law_is_whole : PySem.W.keepIn K (.ref f_law_is_whole) = true)
    (a_law_spots : PySem.W.nsIn K mainGlobals "_law_spots" = some (some (.ref f_law_spots))) (l_law_spots : K.lookup f_law_spots = some ⟨oc_law_spots, od_law_spots, .func (PySem.W.fnOf "_law_spots" "_law_spots" (defArgs s_law_spots) (defBody s_law_spots) (defScope s_law_spots) .none kV_law_spots dc_law_spots pm_law_spots an_law_spots cd_law_spots ct_law_spots), sl_law_spots⟩) (c_law_spots : PySem.W.codeIn K cd_law_spots "_law_spots" = true) (k_law_spots : PySem.W.keepIn K (.ref f_law_spots) = true)
    (a_law_with : PySem.W.nsIn K mainGlobals "_law_with" = some (some (.ref f_law_with))) (l_law_with : K.lookup f_law_with = some ⟨oc_law_with, od_law_with, .func (PySem.W.fnOf "_law_with" "_law_with" (defArgs s_law_with) (defBody s_law_with) (defScope s_law_with) .none kV_law_with dc_law_with pm_law_with an_law_with cd_law_with ct_law_with), sl_law_with⟩) (c_law_with : PySem.W.codeIn K cd_law_with "_law_with" = true) (k_law_with : PySem.W.keepIn K (.ref f_law_with) = true)
    (a_law_bent : PySem.W.nsIn K mainGlobals "_law_bent" = some (some (.ref f_law_bent))) (l_law_bent : K.lookup f_law_bent = some ⟨oc_law_bent, od_law_bent, .func (PySem.W.fnOf "_law_bent" "_law_bent" (defArgs s_law_bent) (defBody s_law_bent) (defScope s_law_bent) .none kV_law_bent dc_law_bent pm_law_bent an_law_bent cd_law_bent ct_law_bent), sl_law_bent⟩) (c_law_bent : PySem.W.codeIn K cd_law_bent "_law_bent" = true) (k_law_bent : PySem.W.keepIn K (.ref f_law_bent) = true)
    (a_law_spoils : PySem.W.nsIn K mainGlobals "_law_spoils" = some (some (.ref f_law_spoils))) (l_law_spoils : K.lookup f_law_spoils = some ⟨oc_law_spoils, od_law_spoils, .func (PySem.W.fnOf "_law_spoils" "_law_spoils" (defArgs s_law_spoils) (defBody s_law_spoils) (defScope s_law_spoils) .none kV_law_spoils dc_law_spoils pm_law_spoils an_law_spoils cd_law_spoils ct_law_spoils), sl_law_spoils⟩) (c_law_spoils : PySem.W.codeIn K cd_law_spoils "_law_spoils" = true) (k_law_spoils : PySem.W.keepIn K (.ref f_law_spoils) = true)
    (a_law_corner : PySem.W.nsIn K mainGlobals "_law_corner" = some (some (.ref f_law_corner))) (l_law_corner : K.lookup f_law_corner = some ⟨oc_law_corner, od_law_corner, .func (PySem.W.fnOf "_law_corner" "_law_corner" (defArgs s_law_corner) (defBody s_law_corner) (defScope s_law_corner) .none kV_law_corner dc_law_corner pm_law_corner an_law_corner cd_law_corner ct_law_corner), sl_law_corner⟩) (c_law_corner : PySem.W.codeIn K cd_law_corner "_law_corner" = true) (k_law_corner : PySem.W.keepIn K (.ref f_law_corner) = true)
    (a_law_path_drawn : PySem.W.nsIn K mainGlobals "_law_path_drawn" = some (some (.ref f_law_path_drawn))) (l_law_path_drawn : K.lookup f_law_path_drawn = some ⟨oc_law_path_drawn, od_law_path_drawn, .func (PySem.W.fnOf "_law_path_drawn" "_law_path_drawn" (defArgs s_law_path_drawn) (defBody s_law_path_drawn) (defScope s_law_path_drawn) .none kV_law_path_drawn dc_law_path_drawn pm_law_path_drawn an_law_path_drawn cd_law_path_drawn ct_law_path_drawn), sl_law_path_drawn⟩) (c_law_path_drawn : PySem.W.codeIn K cd_law_path_drawn "_law_path_drawn" = true) (k_law_path_drawn : PySem.W.keepIn K (.ref f_law_path_drawn) = true)
    (a_law_is_path : PySem.W.nsIn K mainGlobals "_law_is_path" = some (some (.ref f_law_is_path))) (l_law_is_path : K.lookup f_law_is_path = some ⟨oc_law_is_path, od_law_is_path, .func (PySem.W.fnOf "_law_is_path" "_law_is_path" (defArgs s_law_is_path) (defBody s_law_is_path) (defScope s_law_is_path) .none kV_law_is_path dc_law_is_path pm_law_is_path an_law_is_path cd_law_is_path ct_law_is_path), sl_law_is_path⟩) (c_law_is_path : PySem.W.codeIn K cd_law_is_path "_law_is_path" = true) (k_law_is_path : PySem.W.keepIn K (.ref f_law_is_path) = true)
    (a_law_right : PySem.W.nsIn K mainGlobals "_law_right" = some (some (.ref f_law_right))) (l_law_right : K.lookup f_law_right = some ⟨oc_law_right, od_law_right, .func (PySem.W.fnOf "_law_right" "_law_right" (defArgs s_law_right) (defBody s_law_right) (defScope s_law_right) .none kV_law_right dc_law_right pm_law_right an_law_right cd_law_right ct_law_right), sl_law_right⟩) (c_law_right : PySem.W.codeIn K cd_law_right "_law_right" = true) (k_law_right : PySem.W.keepIn K (.ref f_law_right) = true)
    (alaw : PySem.W.nsIn K mainGlobals "law" = some (some (.ref flaw))) (llaw : K.lookup flaw = some ⟨oclaw, odlaw, .func (PySem.W.fnOf "law" "law" (defArgs slaw) (defBody slaw) (defScope slaw) .none kVlaw dclaw pmlaw anlaw cdlaw ctlaw), sllaw⟩) (claw : PySem.W.codeIn K cdlaw "law" = true) (klaw : PySem.W.keepIn K (.ref flaw) = true)
    (z0 : PySem.W.nsIn K mainGlobals "isinstance" = some none) (z1 : PySem.W.nsIn K mainGlobals "len" = some none) (z2 : PySem.W.nsIn K mainGlobals "all" = some none) (z3 : PySem.W.nsIn K mainGlobals "set" = some none) (z4 : PySem.W.nsIn K mainGlobals "list" = some none) (z5 : PySem.W.nsIn K mainGlobals "sum" = some none) (z6 : PySem.W.nsIn K mainGlobals "tuple" = some none) (z7 : PySem.W.nsIn K mainGlobals "int" = some none) (z8 : PySem.W.nsIn K mainGlobals "bool" = some none) (z9 : PySem.W.nsIn K mainGlobals "str" = some none) (z10 : PySem.W.nsIn K mainGlobals "range" = some none) (z11 : PySem.W.nsIn K mainGlobals "repr" = some none)
    (nt : noTab K = true) (tnare_wholes : TabN mg h "are_wholes") (tnis_path : TabN mg h "is_path") :
    ∃ (fd : FuncData) (cs : List (Addr × Addr)), (∀ p ∈ cs, PySem.W.CodeHd h p.1 p.2 ∧ h.TableAt p.1 p.2 #[] ∧ K.lookup p.2 = none) ∧ (∀ (s : Shared) (v : Value), BindsTo s fd ⟨[v], []⟩ [("_law_script", v)]) ∧
      ∀ base : Heap, K.In base → base.Ns mainGlobals mg → (∀ p ∈ cs, GxR.TabB base mg p.1 p.2) → FnG l.prog w K mg base CX0 8 fa fd ["_law_script"] (spLawTs K cs) := by
  have e := hfa.symm.trans (PySem.W.mg_of X G alaw)
  cases e
  have T : Bt mg := ⟨PySem.W.mg_none_of X G z0, PySem.W.mg_none_of X G z1, PySem.W.mg_none_of X G z2, PySem.W.mg_none_of X G z3, PySem.W.mg_none_of X G z4, PySem.W.mg_none_of X G z5, PySem.W.mg_none_of X G z6, PySem.W.mg_none_of X G z7, PySem.W.mg_none_of X G z8, PySem.W.mg_none_of X G z9, PySem.W.mg_none_of X G z10, PySem.W.mg_none_of X G z11⟩
  have F_law_deck := fun_mk (st := s_law_deck) l_law_deck c_law_deck k_law_deck
  have b_law_deck := F_law_deck.binds (ps := ["_law_script"]) fun _ _ _ _ _ _ us hl => match us, hl with | [_], _ => rfl
  have F_law_draw := fun_mk (st := s_law_draw) l_law_draw c_law_draw k_law_draw
  have b_law_draw := F_law_draw.binds (ps := ["_law_deck_here", "_law_most"]) fun _ _ _ _ _ _ us hl => match us, hl with | [_, _], _ => rfl
  have Fis_whole := fun_mk (st := sis_whole) lis_whole cis_whole kis_whole
  have bis_whole := Fis_whole.binds (ps := ["thing"]) fun _ _ _ _ _ _ us hl => match us, hl with | [_], _ => rfl
  have Fare_wholes := fun_mk (st := sare_wholes) lare_wholes care_wholes kare_wholes
  have bare_wholes := Fare_wholes.binds (ps := ["thing", "many"]) fun _ _ _ _ _ _ us hl => match us, hl with | [_, _], _ => rfl
  have Fis_path := fun_mk (st := sis_path) lis_path cis_path kis_path
  have bis_path := Fis_path.binds (ps := ["thing"]) fun _ _ _ _ _ _ us hl => match us, hl with | [_], _ => rfl
  have F_law_is_whole := fun_mk (st := s_law_is_whole) l_law_is_whole c_law_is_whole k_law_is_whole
  have b_law_is_whole := F_law_is_whole.binds (ps := ["_law_thing"]) fun _ _ _ _ _ _ us hl => match us, hl with | [_], _ => rfl
  have F_law_spots := fun_mk (st := s_law_spots) l_law_spots c_law_spots k_law_spots
  have b_law_spots := F_law_spots.binds (ps := ["_law_thing"]) fun _ _ _ _ _ _ us hl => match us, hl with | [_], _ => rfl
  have F_law_with := fun_mk (st := s_law_with) l_law_with c_law_with k_law_with
  have b_law_with := F_law_with.binds (ps := ["_law_thing", "_law_spot", "_law_part"]) fun _ _ _ _ _ _ us hl => match us, hl with | [_, _, _], _ => rfl
  have F_law_bent := fun_mk (st := s_law_bent) l_law_bent c_law_bent k_law_bent
  have b_law_bent := F_law_bent.binds (ps := ["_law_thing", "_law_spoil"]) fun _ _ _ _ _ _ us hl => match us, hl with | [_, _], _ => rfl
  have F_law_spoils := fun_mk (st := s_law_spoils) l_law_spoils c_law_spoils k_law_spoils
  have b_law_spoils := F_law_spoils.binds (ps := ["_law_deck_here", "_law_many"]) fun _ _ _ _ _ _ us hl => match us, hl with | [_, _], _ => rfl
  have F_law_corner := fun_mk (st := s_law_corner) l_law_corner c_law_corner k_law_corner
  have b_law_corner := F_law_corner.binds (ps := ["_law_deck_here", "_law_way"]) fun _ _ _ _ _ _ us hl => match us, hl with | [_, _], _ => rfl
  have F_law_path_drawn := fun_mk (st := s_law_path_drawn) l_law_path_drawn c_law_path_drawn k_law_path_drawn
  have b_law_path_drawn := F_law_path_drawn.binds (ps := ["_law_deck_here"]) fun _ _ _ _ _ _ us hl => match us, hl with | [_], _ => rfl
  have F_law_is_path := fun_mk (st := s_law_is_path) l_law_is_path c_law_is_path k_law_is_path
  have b_law_is_path := F_law_is_path.binds (ps := ["_law_thing"]) fun _ _ _ _ _ _ us hl => match us, hl with | [_], _ => rfl
  have F_law_right := fun_mk (st := s_law_right) l_law_right c_law_right k_law_right
  have b_law_right := F_law_right.binds (ps := ["_law_thing"]) fun _ _ _ _ _ _ us hl => match us, hl with | [_], _ => rfl
  have Flaw := fun_mk (st := slaw) llaw claw klaw
  obtain ⟨ft0, ot0, fdt0, c0, Pt0, t1, t2, t3, t4, t50, t60⟩ := tnare_wholes
  have e := t1.symm.trans (PySem.W.mg_of X G aare_wholes)
  cases e
  have e := t2.symm.trans (X _ _ lare_wholes)
  cases e
  cases t3
  have hcd0 : cdare_wholes = .ref c0 := t4
  clear t1 t2 t4
  obtain ⟨ft1, ot1, fdt1, c1, Pt1, t1, t2, t3, t4, t51, t61⟩ := tnis_path
  have e := t1.symm.trans (PySem.W.mg_of X G ais_path)
  cases e
  have e := t2.symm.trans (X _ _ lis_path)
  cases e
  cases t3
  have hcd1 : cdis_path = .ref c1 := t4
  clear t1 t2 t4
  refine ⟨PySem.W.fnOf "law" "law" (defArgs slaw) (defBody slaw) (defScope slaw) .none kVlaw dclaw pmlaw anlaw cdlaw ctlaw, [(c0, Pt0), (c1, Pt1)], fun p hp => ?_, fun s v => .of_eq rfl, fun base _ _ hB => ?_⟩
  · simp only [List.mem_cons, List.not_mem_nil, or_false] at hp
    rcases hp with rfl | rfl
    · exact ⟨t50, t60, noTab_at X nt t60.2⟩
    · exact ⟨t51, t61, noTab_at X nt t61.2⟩
  have D_law_deck : Def l.prog w K mg base 1 "_law_deck" ["_law_script"] (spDeck K) := .mk1 F_law_deck (ok_law_deck F_law_deck T) (PySem.W.mg_of X G a_law_deck) b_law_deck
  have D_law_draw : Def l.prog w K mg base 1 "_law_draw" ["_law_deck_here", "_law_most"] spDraw := .mk1 F_law_draw (ok_law_draw F_law_draw T) (PySem.W.mg_of X G a_law_draw) b_law_draw
  have Dis_whole : Def l.prog w K mg base 1 "is_whole" ["thing"] (spWhole K) := .mk1 Fis_whole (okis_whole Fis_whole T) (PySem.W.mg_of X G ais_whole) bis_whole
  have Dare_wholes : Def l.prog w K mg base 3 "are_wholes" ["thing", "many"] (spAre K Pt0) := .mk1 Fare_wholes (okare_wholes Fare_wholes hcd0 (hB (c0, Pt0) (by simp)) T (qw_is_whole Fis_whole T bis_whole) (PySem.W.mg_of X G ais_whole) Fis_whole.kp) (PySem.W.mg_of X G aare_wholes) bare_wholes
  have Dis_path : Def l.prog w K mg base 6 "is_path" ["thing"] (spIsP K Pt0 Pt1) := .mk1 Fis_path (okis_path Fis_path hcd1 (hB (c1, Pt1) (by simp)) T Dare_wholes) (PySem.W.mg_of X G ais_path) bis_path
  have D_law_is_whole : Def l.prog w K mg base 1 "_law_is_whole" ["_law_thing"] (spWhole K) := .mk1 F_law_is_whole (ok_law_is_whole F_law_is_whole T) (PySem.W.mg_of X G a_law_is_whole) b_law_is_whole
  have D_law_spots : Def l.prog w K mg base 1 "_law_spots" ["_law_thing"] (spSpots K 0) := .mk1 F_law_spots (spots_zero) (PySem.W.mg_of X G a_law_spots) b_law_spots
  have D_law_with : Def l.prog w K mg base 1 "_law_with" ["_law_thing", "_law_spot", "_law_part"] (spWith K 0) := .mk1 F_law_with (with_zero) (PySem.W.mg_of X G a_law_with) b_law_with
  have D_law_spots : Def l.prog w K mg base 2 "_law_spots" ["_law_thing"] (spSpots K 1) := .mk1 F_law_spots (ok_law_spots F_law_spots T (by decide) D_law_spots) (PySem.W.mg_of X G a_law_spots) b_law_spots
  have D_law_with : Def l.prog w K mg base 2 "_law_with" ["_law_thing", "_law_spot", "_law_part"] (spWith K 1) := .mk1 F_law_with (ok_law_with F_law_with T D_law_with) (PySem.W.mg_of X G a_law_with) b_law_with
  have D_law_spots : Def l.prog w K mg base 3 "_law_spots" ["_law_thing"] (spSpots K 2) := .mk1 F_law_spots (ok_law_spots F_law_spots T (by decide) D_law_spots) (PySem.W.mg_of X G a_law_spots) b_law_spots
  have D_law_with : Def l.prog w K mg base 3 "_law_with" ["_law_thing", "_law_spot", "_law_part"] (spWith K 2) := .mk1 F_law_with (ok_law_with F_law_with T D_law_with) (PySem.W.mg_of X G a_law_with) b_law_with
  have D_law_spots : Def l.prog w K mg base 4 "_law_spots" ["_law_thing"] (spSpots K 3) := .mk1 F_law_spots (ok_law_spots F_law_spots T (by decide) D_law_spots) (PySem.W.mg_of X G a_law_spots) b_law_spots
  have D_law_with : Def l.prog w K mg base 4 "_law_with" ["_law_thing", "_law_spot", "_law_part"] (spWith K 3) := .mk1 F_law_with (ok_law_with F_law_with T D_law_with) (PySem.W.mg_of X G a_law_with) b_law_with
  have D_law_spots : Def l.prog w K mg base 5 "_law_spots" ["_law_thing"] (spSpots K 4) := .mk1 F_law_spots (ok_law_spots F_law_spots T (by decide) D_law_spots) (PySem.W.mg_of X G a_law_spots) b_law_spots
  have D_law_with : Def l.prog w K mg base 5 "_law_with" ["_law_thing", "_law_spot", "_law_part"] (spWith K 4) := .mk1 F_law_with (ok_law_with F_law_with T D_law_with) (PySem.W.mg_of X G a_law_with) b_law_with
  have D_law_bent : Def l.prog w K mg base 6 "_law_bent" ["_law_thing", "_law_spoil"] (spBentC K) := .mk1 F_law_bent (ok_law_bent F_law_bent T D_law_spots D_law_with) (PySem.W.mg_of X G a_law_bent) b_law_bent
  have D_law_spoils : Def l.prog w K mg base 2 "_law_spoils" ["_law_deck_here", "_law_many"] (spSpoils K) := .mk1 F_law_spoils (ok_law_spoils F_law_spoils T D_law_draw) (PySem.W.mg_of X G a_law_spoils) b_law_spoils
  have D_law_corner : Def l.prog w K mg base 2 "_law_corner" ["_law_deck_here", "_law_way"] spCorner20 := .mk1 F_law_corner (ok_law_corner F_law_corner T D_law_draw) (PySem.W.mg_of X G a_law_corner) b_law_corner
  have D_law_path_drawn : Def l.prog w K mg base 3 "_law_path_drawn" ["_law_deck_here"] spDrawn20 := .mk1 F_law_path_drawn (ok_law_path_drawn F_law_path_drawn T D_law_draw D_law_corner) (PySem.W.mg_of X G a_law_path_drawn) b_law_path_drawn
  have D_law_is_path : Def l.prog w K mg base 2 "_law_is_path" ["_law_thing"] (spLIsP K) := .mk1 F_law_is_path (ok_law_is_path F_law_is_path T D_law_is_whole) (PySem.W.mg_of X G a_law_is_path) b_law_is_path
  have D_law_right : Def l.prog w K mg base 7 "_law_right" ["_law_thing"] (spRight20 K Pt0 Pt1) := .mk1 F_law_right (ok_law_right F_law_right T Dis_path D_law_is_path) (PySem.W.mg_of X G a_law_right) b_law_right
  exact oklaw Flaw T D_law_deck D_law_draw D_law_spoils D_law_path_drawn D_law_bent D_law_right
end Cl
open PySem PySem.W PyProof.Rows
set_option maxHeartbeats 0 in
theorem PySem.Challenge.cw_cornerlines_k20_what_is_a_path_holds : PySem.Challenge.rw_cornerlines_k20_what_is_a_path.Holds := by
  w_on; o_law; k_head; (case hw => w_witness2)
  k_fill
  refine Cl.endGT (l := PySem.Challenge.rw_cornerlines_k20_what_is_a_path) (n := 63) (k := 8) (x := "_law_script") (ts := ["are_wholes", "is_path"]) (sp := fun K cs => Cl.spLawTs K cs) rfl (by decide) rfl ⟨⟨rfl, by decide, by decide⟩, rfl⟩ (by rfl) (fun w h Y => PySem.W.kIn_of Y) ?F ?hsp
  case F =>
    intro w mg fa h KX G hmg tn
    refine' Cl.all_mk KX G hmg ?a0 ?l0 ?c0 ?k0 ?a1 ?l1 ?c1 ?k1 ?a2 ?l2 ?c2 ?k2 ?a3 ?l3 ?c3 ?k3 ?a4 ?l4 ?c4 ?k4 ?a5 ?l5 ?c5 ?k5 ?a6 ?l6 ?c6 ?k6 ?a7 ?l7 ?c7 ?k7 ?a8 ?l8 ?c8 ?k8 ?a9 ?l9 ?c9 ?k9 ?a10 ?l10 ?c10 ?k10 ?a11 ?l11 ?c11 ?k11 ?a12 ?l12 ?c12 ?k12 ?a13 ?l13 ?c13 ?k13 ?a14 ?l14 ?c14 ?k14 ?z0 ?z1 ?z2 ?z3 ?z4 ?z5 ?z6 ?z7 ?z8 ?z9 ?z10 ?z11 ?nt (tn _ (by simp)) (tn _ (by simp))
    (case nt => first | (with_unfolding_all exact rfl) | (unfold Cl.noTab; with_unfolding_all rfl))
    (case a0 => k_is); (case l0 => k_is); (case c0 => k_is); (case k0 => k_is); (case a1 => k_is); (case l1 => k_is); (case c1 => k_is); (case k1 => k_is); (case a2 => k_is); (case l2 => k_is); (case c2 => k_is); (case k2 => k_is); (case a3 => k_is); (case l3 => k_is); (case c3 => k_is); (case k3 => k_is); (case a4 => k_is); (case l4 => k_is); (case c4 => k_is); (case k4 => k_is); (case a5 => k_is); (case l5 => k_is); (case c5 => k_is); (case k5 => k_is); (case a6 => k_is); (case l6 => k_is); (case c6 => k_is); (case k6 => k_is); (case a7 => k_is); (case l7 => k_is); (case c7 => k_is); (case k7 => k_is); (case a8 => k_is); (case l8 => k_is); (case c8 => k_is); (case k8 => k_is); (case a9 => k_is); (case l9 => k_is); (case c9 => k_is); (case k9 => k_is); (case a10 => k_is); (case l10 => k_is); (case c10 => k_is); (case k10 => k_is); (case a11 => k_is); (case l11 => k_is); (case c11 => k_is); (case k11 => k_is); (case a12 => k_is); (case l12 => k_is); (case c12 => k_is); (case k12 => k_is); (case a13 => k_is); (case l13 => k_is); (case c13 => k_is); (case k13 => k_is); (case a14 => k_is); (case l14 => k_is); (case c14 => k_is); (case k14 => k_is); (case z0 => k_is); (case z1 => k_is); (case z2 => k_is); (case z3 => k_is); (case z4 => k_is); (case z5 => k_is); (case z6 => k_is); (case z7 => k_is); (case z8 => k_is); (case z9 => k_is); (case z10 => k_is); (case z11 => k_is)
  case hsp =>
    intro w cs H a ns hl _ hc hS
    match cs, hc with
    | [], _ => exact fun _ => rfl
    | [_], _ => exact fun _ => rfl
    | [p, p2], hc => exact ⟨a, ns, rfl, hS, hl, ⟨#[], hc p (by simp), by trivial⟩, ⟨#[], hc p2 (by simp), by trivial⟩, fun _ => rfl⟩
    | _ :: _ :: _ :: _, _ => exact fun _ => rfl

